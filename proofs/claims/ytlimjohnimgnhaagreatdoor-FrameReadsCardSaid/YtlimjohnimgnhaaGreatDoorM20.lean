/- Texts Uf: each says in its own first comment what it proves. -/
import Derived.Test.YtlimjohnimgnhaaGreatDoorM18
import Derived.Deep.MidRow
/- Frames: words of characteristics, and marks. -/
namespace Go.Proofs.YtlimjohnimgnhaaGreatDoor
open Go.RowKit

theorem Gtb.range {w : World} (h : Gtb w) : w.rangeAt 2 0 GtbL := fun j v hv => by
  have hj : j < 54 := (List.getElem?_eq_some_iff.1 hv).1
  rw [Nat.zero_add, h j hj, List.getD_eq_getElem?_getD, hv]; rfl
theorem Gtc.range {w : World} (h : Gtc w) : w.rangeAt 0 0 GtcL := fun j v hv => by
  have hj : j < 3 := (List.getElem?_eq_some_iff.1 hv).1
  rw [Nat.zero_add, h j hj, List.getD_eq_getElem?_getD, hv]; rfl
theorem idxK0 : ∀ w, (Instr.index 129 (.agg GtbL.toArray) (.int .i64 0)).run Tryz.prog w = .ok (.agg #[.string ⟨#[115, 116, 114, 97, 105, 103, 104, 116]⟩, .int .i64 6, .int .i64 6, .int .i64 30, .int .i64 0, .int .i64 0]) w := fun _ => by kernel_rfl
theorem idxK1 : ∀ w, (Instr.index 129 (.agg GtbL.toArray) (.int .i64 1)).run Tryz.prog w = .ok (.agg #[.string ⟨#[102, 108, 97, 116]⟩, .int .i64 9, .int .i64 0, .int .i64 0, .int .i64 0, .int .i64 0]) w := fun _ => by kernel_rfl
theorem idxK2 : ∀ w, (Instr.index 129 (.agg GtbL.toArray) (.int .i64 2)).run Tryz.prog w = .ok (.agg #[.string ⟨#[112, 97, 114, 97, 108, 108, 101, 108]⟩, .int .i64 15, .int .i64 6, .int .i64 30, .int .i64 1, .int .i64 2]) w := fun _ => by kernel_rfl
theorem idxK3 : ∀ w, (Instr.index 129 (.agg GtbL.toArray) (.int .i64 3)).run Tryz.prog w = .ok (.agg #[.string ⟨#[115, 113, 117, 97, 114, 101]⟩, .int .i64 15, .int .i64 6, .int .i64 30, .int .i64 1, .int .i64 2]) w := fun _ => by kernel_rfl
theorem idxK4 : ∀ w, (Instr.index 129 (.agg GtbL.toArray) (.int .i64 4)).run Tryz.prog w = .ok (.agg #[.string ⟨#[114, 111, 117, 110, 100]⟩, .int .i64 22, .int .i64 0, .int .i64 0, .int .i64 0, .int .i64 0]) w := fun _ => by kernel_rfl
theorem idxK5 : ∀ w, (Instr.index 129 (.agg GtbL.toArray) (.int .i64 5)).run Tryz.prog w = .ok (.agg #[.string ⟨#[115, 112, 104, 101, 114, 101]⟩, .int .i64 16, .int .i64 0, .int .i64 0, .int .i64 0, .int .i64 0]) w := fun _ => by kernel_rfl
theorem idxK6 : ∀ w, (Instr.index 129 (.agg GtbL.toArray) (.int .i64 6)).run Tryz.prog w = .ok (.agg #[.string ⟨#[112, 114, 111, 102, 105, 108, 101]⟩, .int .i64 1, .int .i64 0, .int .i64 0, .int .i64 0, .int .i64 3]) w := fun _ => by kernel_rfl
theorem idxK7 : ∀ w, (Instr.index 129 (.agg GtbL.toArray) (.int .i64 7)).run Tryz.prog w = .ok (.agg #[.string ⟨#[114, 117, 110, 111, 117, 116]⟩, .int .i64 7, .int .i64 0, .int .i64 0, .int .i64 1, .int .i64 1]) w := fun _ => by kernel_rfl
theorem idxK8 : ∀ w, (Instr.index 129 (.agg GtbL.toArray) (.int .i64 8)).run Tryz.prog w = .ok (.agg #[.string ⟨#[112, 111, 115, 105, 116, 105, 111, 110]⟩, .int .i64 31, .int .i64 22, .int .i64 30, .int .i64 0, .int .i64 3]) w := fun _ => by kernel_rfl
theorem idxM0 : ∀ w, (Instr.index 109 (.agg GtcL.toArray) (.int .i64 0)).run Tryz.prog w = .ok (.string ⟨#[]⟩) w := fun _ => by kernel_rfl
theorem idxM1 : ∀ w, (Instr.index 109 (.agg GtcL.toArray) (.int .i64 1)).run Tryz.prog w = .ok (.string ⟨#[40, 77, 41]⟩) w := fun _ => by kernel_rfl
theorem idxM2 : ∀ w, (Instr.index 109 (.agg GtcL.toArray) (.int .i64 2)).run Tryz.prog w = .ok (.string ⟨#[40, 76, 41]⟩) w := fun _ => by kernel_rfl
set_option maxRecDepth 100000 in
set_option maxHeartbeats 4000000 in
theorem fchar_1 (w0 : World) (wd : ByteArray)      (h1 : (([115, 116, 114, 97, 105, 103, 104, 116] : List UInt8) == wd.toList) = true) (w : World) (gl : Gf w0 w)  : Calls Tryz.prog 110 #[.string wd] w fun r W' => r = .returned (.int .i64 0) ∧ Kb w W' := by
  have gta := gl.ta
  have gtb := gl.tb
  have gtc := gl.tc
  have kx := Kb.refl w
  have gl0 := Lib.hid gl
  have gta0 := Lib.hid gta
  have gtb0 := Lib.hid gtb
  have gtc0 := Lib.hid gtc
  have ix0 := idxK0
  have ix1 := idxK1
  have ix2 := idxK2
  have ix3 := idxK3
  have ix4 := idxK4
  have ix5 := idxK5
  have ix6 := idxK6
  have ix7 := idxK7
  have ix8 := idxK8
  go_enter Tryz.func110, Tryz.ntmps110
  go_wp2_with (first | (refine wpList_load_mid rfl 129 _ rfl 2 0 rfl GtbL _ gtb.range Tryz.underlying129 rfl (by kernel_rfl) ?_) | fail)
  generalize Value.agg GtbL.toArray = AV at *
  refine wp_loop_rounds 1 ?_
  rw [rounds_succ]
  have j55 := (Is.made w #[.string ⟨#[115, 116, 114, 97, 105, 103, 104, 116]⟩, .int .i64 6, .int .i64 6, .int .i64 30, .int .i64 0, .int .i64 0] 128)
  have f56 := j55.c (i := 0) rfl
  go_wp2
  go_ret
  clear f56
  replace kx := kx.alloc (.cells #[.string ⟨#[115, 116, 114, 97, 105, 103, 104, 116]⟩, .int .i64 6, .int .i64 6, .int .i64 30, .int .i64 0, .int .i64 0] 128 (0, 0))
  exact ⟨rfl, kx⟩
set_option maxRecDepth 100000 in
set_option maxHeartbeats 4000000 in
theorem fchar_2 (w0 : World) (wd : ByteArray)      (h1 : (([115, 116, 114, 97, 105, 103, 104, 116] : List UInt8) == wd.toList) = false) (h2 : (([102, 108, 97, 116] : List UInt8) == wd.toList) = true) (w : World) (gl : Gf w0 w)  : Calls Tryz.prog 110 #[.string wd] w fun r W' => r = .returned (.int .i64 1) ∧ Kb w W' := by
  have gta := gl.ta
  have gtb := gl.tb
  have gtc := gl.tc
  have kx := Kb.refl w
  have gl0 := Lib.hid gl
  have gta0 := Lib.hid gta
  have gtb0 := Lib.hid gtb
  have gtc0 := Lib.hid gtc
  have ix0 := idxK0
  have ix1 := idxK1
  have ix2 := idxK2
  have ix3 := idxK3
  have ix4 := idxK4
  have ix5 := idxK5
  have ix6 := idxK6
  have ix7 := idxK7
  have ix8 := idxK8
  go_enter Tryz.func110, Tryz.ntmps110
  go_wp2_with (first | (refine wpList_load_mid rfl 129 _ rfl 2 0 rfl GtbL _ gtb.range Tryz.underlying129 rfl (by kernel_rfl) ?_) | fail)
  generalize Value.agg GtbL.toArray = AV at *
  refine wp_loop_rounds 2 ?_
  rw [rounds_succ]
  have j55 := (Is.made w #[.string ⟨#[115, 116, 114, 97, 105, 103, 104, 116]⟩, .int .i64 6, .int .i64 6, .int .i64 30, .int .i64 0, .int .i64 0] 128)
  have f56 := j55.c (i := 0) rfl
  go_wp2_with fail
  rw [rounds_succ]
  have j57 := (Is.made (w.alloc (.cells #[.string ⟨#[115, 116, 114, 97, 105, 103, 104, 116]⟩, .int .i64 6, .int .i64 6, .int .i64 30, .int .i64 0, .int .i64 0] 128 (0, 0))) #[.string ⟨#[102, 108, 97, 116]⟩, .int .i64 9, .int .i64 0, .int .i64 0, .int .i64 0, .int .i64 0] 128)
  simp only [World.size_alloc] at j57
  have f58 := j57.c (i := 0) rfl
  go_wp2
  go_ret
  clear f56 f58
  replace kx := (kx.alloc (.cells #[.string ⟨#[115, 116, 114, 97, 105, 103, 104, 116]⟩, .int .i64 6, .int .i64 6, .int .i64 30, .int .i64 0, .int .i64 0] 128 (0, 0))).alloc (.cells #[.string ⟨#[102, 108, 97, 116]⟩, .int .i64 9, .int .i64 0, .int .i64 0, .int .i64 0, .int .i64 0] 128 (0, 0))
  exact ⟨rfl, kx⟩
set_option maxRecDepth 100000 in
set_option maxHeartbeats 4000000 in
theorem fchar_3 (w0 : World) (wd : ByteArray)      (h1 : (([115, 116, 114, 97, 105, 103, 104, 116] : List UInt8) == wd.toList) = false) (h2 : (([102, 108, 97, 116] : List UInt8) == wd.toList) = false) (h3 : (([112, 97, 114, 97, 108, 108, 101, 108] : List UInt8) == wd.toList) = true) (w : World) (gl : Gf w0 w)  : Calls Tryz.prog 110 #[.string wd] w fun r W' => r = .returned (.int .i64 2) ∧ Kb w W' := by
  have gta := gl.ta
  have gtb := gl.tb
  have gtc := gl.tc
  have kx := Kb.refl w
  have gl0 := Lib.hid gl
  have gta0 := Lib.hid gta
  have gtb0 := Lib.hid gtb
  have gtc0 := Lib.hid gtc
  have ix0 := idxK0
  have ix1 := idxK1
  have ix2 := idxK2
  have ix3 := idxK3
  have ix4 := idxK4
  have ix5 := idxK5
  have ix6 := idxK6
  have ix7 := idxK7
  have ix8 := idxK8
  go_enter Tryz.func110, Tryz.ntmps110
  go_wp2_with (first | (refine wpList_load_mid rfl 129 _ rfl 2 0 rfl GtbL _ gtb.range Tryz.underlying129 rfl (by kernel_rfl) ?_) | fail)
  generalize Value.agg GtbL.toArray = AV at *
  refine wp_loop_rounds 3 ?_
  rw [rounds_succ]
  have j55 := (Is.made w #[.string ⟨#[115, 116, 114, 97, 105, 103, 104, 116]⟩, .int .i64 6, .int .i64 6, .int .i64 30, .int .i64 0, .int .i64 0] 128)
  have f56 := j55.c (i := 0) rfl
  go_wp2_with fail
  rw [rounds_succ]
  have j57 := (Is.made (w.alloc (.cells #[.string ⟨#[115, 116, 114, 97, 105, 103, 104, 116]⟩, .int .i64 6, .int .i64 6, .int .i64 30, .int .i64 0, .int .i64 0] 128 (0, 0))) #[.string ⟨#[102, 108, 97, 116]⟩, .int .i64 9, .int .i64 0, .int .i64 0, .int .i64 0, .int .i64 0] 128)
  simp only [World.size_alloc] at j57
  have f58 := j57.c (i := 0) rfl
  go_wp2_with fail
  rw [rounds_succ]
  have j59 := (Is.made ((w.alloc (.cells #[.string ⟨#[115, 116, 114, 97, 105, 103, 104, 116]⟩, .int .i64 6, .int .i64 6, .int .i64 30, .int .i64 0, .int .i64 0] 128 (0, 0))).alloc (.cells #[.string ⟨#[102, 108, 97, 116]⟩, .int .i64 9, .int .i64 0, .int .i64 0, .int .i64 0, .int .i64 0] 128 (0, 0))) #[.string ⟨#[112, 97, 114, 97, 108, 108, 101, 108]⟩, .int .i64 15, .int .i64 6, .int .i64 30, .int .i64 1, .int .i64 2] 128)
  simp only [World.size_alloc] at j59
  have f60 := j59.c (i := 0) rfl
  go_wp2
  go_ret
  clear f56 f58 f60
  replace kx := ((kx.alloc (.cells #[.string ⟨#[115, 116, 114, 97, 105, 103, 104, 116]⟩, .int .i64 6, .int .i64 6, .int .i64 30, .int .i64 0, .int .i64 0] 128 (0, 0))).alloc (.cells #[.string ⟨#[102, 108, 97, 116]⟩, .int .i64 9, .int .i64 0, .int .i64 0, .int .i64 0, .int .i64 0] 128 (0, 0))).alloc (.cells #[.string ⟨#[112, 97, 114, 97, 108, 108, 101, 108]⟩, .int .i64 15, .int .i64 6, .int .i64 30, .int .i64 1, .int .i64 2] 128 (0, 0))
  exact ⟨rfl, kx⟩
set_option maxRecDepth 100000 in
set_option maxHeartbeats 4000000 in
theorem fchar_4 (w0 : World) (wd : ByteArray)      (h1 : (([115, 116, 114, 97, 105, 103, 104, 116] : List UInt8) == wd.toList) = false) (h2 : (([102, 108, 97, 116] : List UInt8) == wd.toList) = false) (h3 : (([112, 97, 114, 97, 108, 108, 101, 108] : List UInt8) == wd.toList) = false) (h4 : (([115, 113, 117, 97, 114, 101] : List UInt8) == wd.toList) = true) (w : World) (gl : Gf w0 w)  : Calls Tryz.prog 110 #[.string wd] w fun r W' => r = .returned (.int .i64 3) ∧ Kb w W' := by
  have gta := gl.ta
  have gtb := gl.tb
  have gtc := gl.tc
  have kx := Kb.refl w
  have gl0 := Lib.hid gl
  have gta0 := Lib.hid gta
  have gtb0 := Lib.hid gtb
  have gtc0 := Lib.hid gtc
  have ix0 := idxK0
  have ix1 := idxK1
  have ix2 := idxK2
  have ix3 := idxK3
  have ix4 := idxK4
  have ix5 := idxK5
  have ix6 := idxK6
  have ix7 := idxK7
  have ix8 := idxK8
  go_enter Tryz.func110, Tryz.ntmps110
  go_wp2_with (first | (refine wpList_load_mid rfl 129 _ rfl 2 0 rfl GtbL _ gtb.range Tryz.underlying129 rfl (by kernel_rfl) ?_) | fail)
  generalize Value.agg GtbL.toArray = AV at *
  refine wp_loop_rounds 4 ?_
  rw [rounds_succ]
  have j55 := (Is.made w #[.string ⟨#[115, 116, 114, 97, 105, 103, 104, 116]⟩, .int .i64 6, .int .i64 6, .int .i64 30, .int .i64 0, .int .i64 0] 128)
  have f56 := j55.c (i := 0) rfl
  go_wp2_with fail
  rw [rounds_succ]
  have j57 := (Is.made (w.alloc (.cells #[.string ⟨#[115, 116, 114, 97, 105, 103, 104, 116]⟩, .int .i64 6, .int .i64 6, .int .i64 30, .int .i64 0, .int .i64 0] 128 (0, 0))) #[.string ⟨#[102, 108, 97, 116]⟩, .int .i64 9, .int .i64 0, .int .i64 0, .int .i64 0, .int .i64 0] 128)
  simp only [World.size_alloc] at j57
  have f58 := j57.c (i := 0) rfl
  go_wp2_with fail
  rw [rounds_succ]
  have j59 := (Is.made ((w.alloc (.cells #[.string ⟨#[115, 116, 114, 97, 105, 103, 104, 116]⟩, .int .i64 6, .int .i64 6, .int .i64 30, .int .i64 0, .int .i64 0] 128 (0, 0))).alloc (.cells #[.string ⟨#[102, 108, 97, 116]⟩, .int .i64 9, .int .i64 0, .int .i64 0, .int .i64 0, .int .i64 0] 128 (0, 0))) #[.string ⟨#[112, 97, 114, 97, 108, 108, 101, 108]⟩, .int .i64 15, .int .i64 6, .int .i64 30, .int .i64 1, .int .i64 2] 128)
  simp only [World.size_alloc] at j59
  have f60 := j59.c (i := 0) rfl
  go_wp2_with fail
  rw [rounds_succ]
  have j61 := (Is.made (((w.alloc (.cells #[.string ⟨#[115, 116, 114, 97, 105, 103, 104, 116]⟩, .int .i64 6, .int .i64 6, .int .i64 30, .int .i64 0, .int .i64 0] 128 (0, 0))).alloc (.cells #[.string ⟨#[102, 108, 97, 116]⟩, .int .i64 9, .int .i64 0, .int .i64 0, .int .i64 0, .int .i64 0] 128 (0, 0))).alloc (.cells #[.string ⟨#[112, 97, 114, 97, 108, 108, 101, 108]⟩, .int .i64 15, .int .i64 6, .int .i64 30, .int .i64 1, .int .i64 2] 128 (0, 0))) #[.string ⟨#[115, 113, 117, 97, 114, 101]⟩, .int .i64 15, .int .i64 6, .int .i64 30, .int .i64 1, .int .i64 2] 128)
  simp only [World.size_alloc] at j61
  have f62 := j61.c (i := 0) rfl
  go_wp2
  go_ret
  clear f56 f58 f60 f62
  replace kx := (((kx.alloc (.cells #[.string ⟨#[115, 116, 114, 97, 105, 103, 104, 116]⟩, .int .i64 6, .int .i64 6, .int .i64 30, .int .i64 0, .int .i64 0] 128 (0, 0))).alloc (.cells #[.string ⟨#[102, 108, 97, 116]⟩, .int .i64 9, .int .i64 0, .int .i64 0, .int .i64 0, .int .i64 0] 128 (0, 0))).alloc (.cells #[.string ⟨#[112, 97, 114, 97, 108, 108, 101, 108]⟩, .int .i64 15, .int .i64 6, .int .i64 30, .int .i64 1, .int .i64 2] 128 (0, 0))).alloc (.cells #[.string ⟨#[115, 113, 117, 97, 114, 101]⟩, .int .i64 15, .int .i64 6, .int .i64 30, .int .i64 1, .int .i64 2] 128 (0, 0))
  exact ⟨rfl, kx⟩
set_option maxRecDepth 100000 in
set_option maxHeartbeats 4000000 in
theorem fchar_5 (w0 : World) (wd : ByteArray)      (h1 : (([115, 116, 114, 97, 105, 103, 104, 116] : List UInt8) == wd.toList) = false) (h2 : (([102, 108, 97, 116] : List UInt8) == wd.toList) = false) (h3 : (([112, 97, 114, 97, 108, 108, 101, 108] : List UInt8) == wd.toList) = false) (h4 : (([115, 113, 117, 97, 114, 101] : List UInt8) == wd.toList) = false) (h5 : (([114, 111, 117, 110, 100] : List UInt8) == wd.toList) = true) (w : World) (gl : Gf w0 w)  : Calls Tryz.prog 110 #[.string wd] w fun r W' => r = .returned (.int .i64 4) ∧ Kb w W' := by
  have gta := gl.ta
  have gtb := gl.tb
  have gtc := gl.tc
  have kx := Kb.refl w
  have gl0 := Lib.hid gl
  have gta0 := Lib.hid gta
  have gtb0 := Lib.hid gtb
  have gtc0 := Lib.hid gtc
  have ix0 := idxK0
  have ix1 := idxK1
  have ix2 := idxK2
  have ix3 := idxK3
  have ix4 := idxK4
  have ix5 := idxK5
  have ix6 := idxK6
  have ix7 := idxK7
  have ix8 := idxK8
  go_enter Tryz.func110, Tryz.ntmps110
  go_wp2_with (first | (refine wpList_load_mid rfl 129 _ rfl 2 0 rfl GtbL _ gtb.range Tryz.underlying129 rfl (by kernel_rfl) ?_) | fail)
  generalize Value.agg GtbL.toArray = AV at *
  refine wp_loop_rounds 5 ?_
  rw [rounds_succ]
  have j55 := (Is.made w #[.string ⟨#[115, 116, 114, 97, 105, 103, 104, 116]⟩, .int .i64 6, .int .i64 6, .int .i64 30, .int .i64 0, .int .i64 0] 128)
  have f56 := j55.c (i := 0) rfl
  go_wp2_with fail
  rw [rounds_succ]
  have j57 := (Is.made (w.alloc (.cells #[.string ⟨#[115, 116, 114, 97, 105, 103, 104, 116]⟩, .int .i64 6, .int .i64 6, .int .i64 30, .int .i64 0, .int .i64 0] 128 (0, 0))) #[.string ⟨#[102, 108, 97, 116]⟩, .int .i64 9, .int .i64 0, .int .i64 0, .int .i64 0, .int .i64 0] 128)
  simp only [World.size_alloc] at j57
  have f58 := j57.c (i := 0) rfl
  go_wp2_with fail
  rw [rounds_succ]
  have j59 := (Is.made ((w.alloc (.cells #[.string ⟨#[115, 116, 114, 97, 105, 103, 104, 116]⟩, .int .i64 6, .int .i64 6, .int .i64 30, .int .i64 0, .int .i64 0] 128 (0, 0))).alloc (.cells #[.string ⟨#[102, 108, 97, 116]⟩, .int .i64 9, .int .i64 0, .int .i64 0, .int .i64 0, .int .i64 0] 128 (0, 0))) #[.string ⟨#[112, 97, 114, 97, 108, 108, 101, 108]⟩, .int .i64 15, .int .i64 6, .int .i64 30, .int .i64 1, .int .i64 2] 128)
  simp only [World.size_alloc] at j59
  have f60 := j59.c (i := 0) rfl
  go_wp2_with fail
  rw [rounds_succ]
  have j61 := (Is.made (((w.alloc (.cells #[.string ⟨#[115, 116, 114, 97, 105, 103, 104, 116]⟩, .int .i64 6, .int .i64 6, .int .i64 30, .int .i64 0, .int .i64 0] 128 (0, 0))).alloc (.cells #[.string ⟨#[102, 108, 97, 116]⟩, .int .i64 9, .int .i64 0, .int .i64 0, .int .i64 0, .int .i64 0] 128 (0, 0))).alloc (.cells #[.string ⟨#[112, 97, 114, 97, 108, 108, 101, 108]⟩, .int .i64 15, .int .i64 6, .int .i64 30, .int .i64 1, .int .i64 2] 128 (0, 0))) #[.string ⟨#[115, 113, 117, 97, 114, 101]⟩, .int .i64 15, .int .i64 6, .int .i64 30, .int .i64 1, .int .i64 2] 128)
  simp only [World.size_alloc] at j61
  have f62 := j61.c (i := 0) rfl
  go_wp2_with fail
  rw [rounds_succ]
  have j63 := (Is.made ((((w.alloc (.cells #[.string ⟨#[115, 116, 114, 97, 105, 103, 104, 116]⟩, .int .i64 6, .int .i64 6, .int .i64 30, .int .i64 0, .int .i64 0] 128 (0, 0))).alloc (.cells #[.string ⟨#[102, 108, 97, 116]⟩, .int .i64 9, .int .i64 0, .int .i64 0, .int .i64 0, .int .i64 0] 128 (0, 0))).alloc (.cells #[.string ⟨#[112, 97, 114, 97, 108, 108, 101, 108]⟩, .int .i64 15, .int .i64 6, .int .i64 30, .int .i64 1, .int .i64 2] 128 (0, 0))).alloc (.cells #[.string ⟨#[115, 113, 117, 97, 114, 101]⟩, .int .i64 15, .int .i64 6, .int .i64 30, .int .i64 1, .int .i64 2] 128 (0, 0))) #[.string ⟨#[114, 111, 117, 110, 100]⟩, .int .i64 22, .int .i64 0, .int .i64 0, .int .i64 0, .int .i64 0] 128)
  simp only [World.size_alloc] at j63
  have f64 := j63.c (i := 0) rfl
  go_wp2
  go_ret
  clear f56 f58 f60 f62 f64
  replace kx := ((((kx.alloc (.cells #[.string ⟨#[115, 116, 114, 97, 105, 103, 104, 116]⟩, .int .i64 6, .int .i64 6, .int .i64 30, .int .i64 0, .int .i64 0] 128 (0, 0))).alloc (.cells #[.string ⟨#[102, 108, 97, 116]⟩, .int .i64 9, .int .i64 0, .int .i64 0, .int .i64 0, .int .i64 0] 128 (0, 0))).alloc (.cells #[.string ⟨#[112, 97, 114, 97, 108, 108, 101, 108]⟩, .int .i64 15, .int .i64 6, .int .i64 30, .int .i64 1, .int .i64 2] 128 (0, 0))).alloc (.cells #[.string ⟨#[115, 113, 117, 97, 114, 101]⟩, .int .i64 15, .int .i64 6, .int .i64 30, .int .i64 1, .int .i64 2] 128 (0, 0))).alloc (.cells #[.string ⟨#[114, 111, 117, 110, 100]⟩, .int .i64 22, .int .i64 0, .int .i64 0, .int .i64 0, .int .i64 0] 128 (0, 0))
  exact ⟨rfl, kx⟩
set_option maxRecDepth 100000 in
set_option maxHeartbeats 4000000 in
theorem fchar_6 (w0 : World) (wd : ByteArray)      (h1 : (([115, 116, 114, 97, 105, 103, 104, 116] : List UInt8) == wd.toList) = false) (h2 : (([102, 108, 97, 116] : List UInt8) == wd.toList) = false) (h3 : (([112, 97, 114, 97, 108, 108, 101, 108] : List UInt8) == wd.toList) = false) (h4 : (([115, 113, 117, 97, 114, 101] : List UInt8) == wd.toList) = false) (h5 : (([114, 111, 117, 110, 100] : List UInt8) == wd.toList) = false) (h6 : (([115, 112, 104, 101, 114, 101] : List UInt8) == wd.toList) = true) (w : World) (gl : Gf w0 w)  : Calls Tryz.prog 110 #[.string wd] w fun r W' => r = .returned (.int .i64 5) ∧ Kb w W' := by
  have gta := gl.ta
  have gtb := gl.tb
  have gtc := gl.tc
  have kx := Kb.refl w
  have gl0 := Lib.hid gl
  have gta0 := Lib.hid gta
  have gtb0 := Lib.hid gtb
  have gtc0 := Lib.hid gtc
  have ix0 := idxK0
  have ix1 := idxK1
  have ix2 := idxK2
  have ix3 := idxK3
  have ix4 := idxK4
  have ix5 := idxK5
  have ix6 := idxK6
  have ix7 := idxK7
  have ix8 := idxK8
  go_enter Tryz.func110, Tryz.ntmps110
  go_wp2_with (first | (refine wpList_load_mid rfl 129 _ rfl 2 0 rfl GtbL _ gtb.range Tryz.underlying129 rfl (by kernel_rfl) ?_) | fail)
  generalize Value.agg GtbL.toArray = AV at *
  refine wp_loop_rounds 6 ?_
  rw [rounds_succ]
  have j55 := (Is.made w #[.string ⟨#[115, 116, 114, 97, 105, 103, 104, 116]⟩, .int .i64 6, .int .i64 6, .int .i64 30, .int .i64 0, .int .i64 0] 128)
  have f56 := j55.c (i := 0) rfl
  go_wp2_with fail
  rw [rounds_succ]
  have j57 := (Is.made (w.alloc (.cells #[.string ⟨#[115, 116, 114, 97, 105, 103, 104, 116]⟩, .int .i64 6, .int .i64 6, .int .i64 30, .int .i64 0, .int .i64 0] 128 (0, 0))) #[.string ⟨#[102, 108, 97, 116]⟩, .int .i64 9, .int .i64 0, .int .i64 0, .int .i64 0, .int .i64 0] 128)
  simp only [World.size_alloc] at j57
  have f58 := j57.c (i := 0) rfl
  go_wp2_with fail
  rw [rounds_succ]
  have j59 := (Is.made ((w.alloc (.cells #[.string ⟨#[115, 116, 114, 97, 105, 103, 104, 116]⟩, .int .i64 6, .int .i64 6, .int .i64 30, .int .i64 0, .int .i64 0] 128 (0, 0))).alloc (.cells #[.string ⟨#[102, 108, 97, 116]⟩, .int .i64 9, .int .i64 0, .int .i64 0, .int .i64 0, .int .i64 0] 128 (0, 0))) #[.string ⟨#[112, 97, 114, 97, 108, 108, 101, 108]⟩, .int .i64 15, .int .i64 6, .int .i64 30, .int .i64 1, .int .i64 2] 128)
  simp only [World.size_alloc] at j59
  have f60 := j59.c (i := 0) rfl
  go_wp2_with fail
  rw [rounds_succ]
  have j61 := (Is.made (((w.alloc (.cells #[.string ⟨#[115, 116, 114, 97, 105, 103, 104, 116]⟩, .int .i64 6, .int .i64 6, .int .i64 30, .int .i64 0, .int .i64 0] 128 (0, 0))).alloc (.cells #[.string ⟨#[102, 108, 97, 116]⟩, .int .i64 9, .int .i64 0, .int .i64 0, .int .i64 0, .int .i64 0] 128 (0, 0))).alloc (.cells #[.string ⟨#[112, 97, 114, 97, 108, 108, 101, 108]⟩, .int .i64 15, .int .i64 6, .int .i64 30, .int .i64 1, .int .i64 2] 128 (0, 0))) #[.string ⟨#[115, 113, 117, 97, 114, 101]⟩, .int .i64 15, .int .i64 6, .int .i64 30, .int .i64 1, .int .i64 2] 128)
  simp only [World.size_alloc] at j61
  have f62 := j61.c (i := 0) rfl
  go_wp2_with fail
  rw [rounds_succ]
  have j63 := (Is.made ((((w.alloc (.cells #[.string ⟨#[115, 116, 114, 97, 105, 103, 104, 116]⟩, .int .i64 6, .int .i64 6, .int .i64 30, .int .i64 0, .int .i64 0] 128 (0, 0))).alloc (.cells #[.string ⟨#[102, 108, 97, 116]⟩, .int .i64 9, .int .i64 0, .int .i64 0, .int .i64 0, .int .i64 0] 128 (0, 0))).alloc (.cells #[.string ⟨#[112, 97, 114, 97, 108, 108, 101, 108]⟩, .int .i64 15, .int .i64 6, .int .i64 30, .int .i64 1, .int .i64 2] 128 (0, 0))).alloc (.cells #[.string ⟨#[115, 113, 117, 97, 114, 101]⟩, .int .i64 15, .int .i64 6, .int .i64 30, .int .i64 1, .int .i64 2] 128 (0, 0))) #[.string ⟨#[114, 111, 117, 110, 100]⟩, .int .i64 22, .int .i64 0, .int .i64 0, .int .i64 0, .int .i64 0] 128)
  simp only [World.size_alloc] at j63
  have f64 := j63.c (i := 0) rfl
  go_wp2_with fail
  rw [rounds_succ]
  have j65 := (Is.made (((((w.alloc (.cells #[.string ⟨#[115, 116, 114, 97, 105, 103, 104, 116]⟩, .int .i64 6, .int .i64 6, .int .i64 30, .int .i64 0, .int .i64 0] 128 (0, 0))).alloc (.cells #[.string ⟨#[102, 108, 97, 116]⟩, .int .i64 9, .int .i64 0, .int .i64 0, .int .i64 0, .int .i64 0] 128 (0, 0))).alloc (.cells #[.string ⟨#[112, 97, 114, 97, 108, 108, 101, 108]⟩, .int .i64 15, .int .i64 6, .int .i64 30, .int .i64 1, .int .i64 2] 128 (0, 0))).alloc (.cells #[.string ⟨#[115, 113, 117, 97, 114, 101]⟩, .int .i64 15, .int .i64 6, .int .i64 30, .int .i64 1, .int .i64 2] 128 (0, 0))).alloc (.cells #[.string ⟨#[114, 111, 117, 110, 100]⟩, .int .i64 22, .int .i64 0, .int .i64 0, .int .i64 0, .int .i64 0] 128 (0, 0))) #[.string ⟨#[115, 112, 104, 101, 114, 101]⟩, .int .i64 16, .int .i64 0, .int .i64 0, .int .i64 0, .int .i64 0] 128)
  simp only [World.size_alloc] at j65
  have f66 := j65.c (i := 0) rfl
  go_wp2
  go_ret
  clear f56 f58 f60 f62 f64 f66
  replace kx := (((((kx.alloc (.cells #[.string ⟨#[115, 116, 114, 97, 105, 103, 104, 116]⟩, .int .i64 6, .int .i64 6, .int .i64 30, .int .i64 0, .int .i64 0] 128 (0, 0))).alloc (.cells #[.string ⟨#[102, 108, 97, 116]⟩, .int .i64 9, .int .i64 0, .int .i64 0, .int .i64 0, .int .i64 0] 128 (0, 0))).alloc (.cells #[.string ⟨#[112, 97, 114, 97, 108, 108, 101, 108]⟩, .int .i64 15, .int .i64 6, .int .i64 30, .int .i64 1, .int .i64 2] 128 (0, 0))).alloc (.cells #[.string ⟨#[115, 113, 117, 97, 114, 101]⟩, .int .i64 15, .int .i64 6, .int .i64 30, .int .i64 1, .int .i64 2] 128 (0, 0))).alloc (.cells #[.string ⟨#[114, 111, 117, 110, 100]⟩, .int .i64 22, .int .i64 0, .int .i64 0, .int .i64 0, .int .i64 0] 128 (0, 0))).alloc (.cells #[.string ⟨#[115, 112, 104, 101, 114, 101]⟩, .int .i64 16, .int .i64 0, .int .i64 0, .int .i64 0, .int .i64 0] 128 (0, 0))
  exact ⟨rfl, kx⟩
set_option maxRecDepth 100000 in
set_option maxHeartbeats 4000000 in
theorem fchar_7 (w0 : World) (wd : ByteArray)      (h1 : (([115, 116, 114, 97, 105, 103, 104, 116] : List UInt8) == wd.toList) = false) (h2 : (([102, 108, 97, 116] : List UInt8) == wd.toList) = false) (h3 : (([112, 97, 114, 97, 108, 108, 101, 108] : List UInt8) == wd.toList) = false) (h4 : (([115, 113, 117, 97, 114, 101] : List UInt8) == wd.toList) = false) (h5 : (([114, 111, 117, 110, 100] : List UInt8) == wd.toList) = false) (h6 : (([115, 112, 104, 101, 114, 101] : List UInt8) == wd.toList) = false) (h7 : (([112, 114, 111, 102, 105, 108, 101] : List UInt8) == wd.toList) = true) (w : World) (gl : Gf w0 w)  : Calls Tryz.prog 110 #[.string wd] w fun r W' => r = .returned (.int .i64 6) ∧ Kb w W' := by
  have gta := gl.ta
  have gtb := gl.tb
  have gtc := gl.tc
  have kx := Kb.refl w
  have gl0 := Lib.hid gl
  have gta0 := Lib.hid gta
  have gtb0 := Lib.hid gtb
  have gtc0 := Lib.hid gtc
  have ix0 := idxK0
  have ix1 := idxK1
  have ix2 := idxK2
  have ix3 := idxK3
  have ix4 := idxK4
  have ix5 := idxK5
  have ix6 := idxK6
  have ix7 := idxK7
  have ix8 := idxK8
  go_enter Tryz.func110, Tryz.ntmps110
  go_wp2_with (first | (refine wpList_load_mid rfl 129 _ rfl 2 0 rfl GtbL _ gtb.range Tryz.underlying129 rfl (by kernel_rfl) ?_) | fail)
  generalize Value.agg GtbL.toArray = AV at *
  refine wp_loop_rounds 7 ?_
  rw [rounds_succ]
  have j55 := (Is.made w #[.string ⟨#[115, 116, 114, 97, 105, 103, 104, 116]⟩, .int .i64 6, .int .i64 6, .int .i64 30, .int .i64 0, .int .i64 0] 128)
  have f56 := j55.c (i := 0) rfl
  go_wp2_with fail
  rw [rounds_succ]
  have j57 := (Is.made (w.alloc (.cells #[.string ⟨#[115, 116, 114, 97, 105, 103, 104, 116]⟩, .int .i64 6, .int .i64 6, .int .i64 30, .int .i64 0, .int .i64 0] 128 (0, 0))) #[.string ⟨#[102, 108, 97, 116]⟩, .int .i64 9, .int .i64 0, .int .i64 0, .int .i64 0, .int .i64 0] 128)
  simp only [World.size_alloc] at j57
  have f58 := j57.c (i := 0) rfl
  go_wp2_with fail
  rw [rounds_succ]
  have j59 := (Is.made ((w.alloc (.cells #[.string ⟨#[115, 116, 114, 97, 105, 103, 104, 116]⟩, .int .i64 6, .int .i64 6, .int .i64 30, .int .i64 0, .int .i64 0] 128 (0, 0))).alloc (.cells #[.string ⟨#[102, 108, 97, 116]⟩, .int .i64 9, .int .i64 0, .int .i64 0, .int .i64 0, .int .i64 0] 128 (0, 0))) #[.string ⟨#[112, 97, 114, 97, 108, 108, 101, 108]⟩, .int .i64 15, .int .i64 6, .int .i64 30, .int .i64 1, .int .i64 2] 128)
  simp only [World.size_alloc] at j59
  have f60 := j59.c (i := 0) rfl
  go_wp2_with fail
  rw [rounds_succ]
  have j61 := (Is.made (((w.alloc (.cells #[.string ⟨#[115, 116, 114, 97, 105, 103, 104, 116]⟩, .int .i64 6, .int .i64 6, .int .i64 30, .int .i64 0, .int .i64 0] 128 (0, 0))).alloc (.cells #[.string ⟨#[102, 108, 97, 116]⟩, .int .i64 9, .int .i64 0, .int .i64 0, .int .i64 0, .int .i64 0] 128 (0, 0))).alloc (.cells #[.string ⟨#[112, 97, 114, 97, 108, 108, 101, 108]⟩, .int .i64 15, .int .i64 6, .int .i64 30, .int .i64 1, .int .i64 2] 128 (0, 0))) #[.string ⟨#[115, 113, 117, 97, 114, 101]⟩, .int .i64 15, .int .i64 6, .int .i64 30, .int .i64 1, .int .i64 2] 128)
  simp only [World.size_alloc] at j61
  have f62 := j61.c (i := 0) rfl
  go_wp2_with fail
  rw [rounds_succ]
  have j63 := (Is.made ((((w.alloc (.cells #[.string ⟨#[115, 116, 114, 97, 105, 103, 104, 116]⟩, .int .i64 6, .int .i64 6, .int .i64 30, .int .i64 0, .int .i64 0] 128 (0, 0))).alloc (.cells #[.string ⟨#[102, 108, 97, 116]⟩, .int .i64 9, .int .i64 0, .int .i64 0, .int .i64 0, .int .i64 0] 128 (0, 0))).alloc (.cells #[.string ⟨#[112, 97, 114, 97, 108, 108, 101, 108]⟩, .int .i64 15, .int .i64 6, .int .i64 30, .int .i64 1, .int .i64 2] 128 (0, 0))).alloc (.cells #[.string ⟨#[115, 113, 117, 97, 114, 101]⟩, .int .i64 15, .int .i64 6, .int .i64 30, .int .i64 1, .int .i64 2] 128 (0, 0))) #[.string ⟨#[114, 111, 117, 110, 100]⟩, .int .i64 22, .int .i64 0, .int .i64 0, .int .i64 0, .int .i64 0] 128)
  simp only [World.size_alloc] at j63
  have f64 := j63.c (i := 0) rfl
  go_wp2_with fail
  rw [rounds_succ]
  have j65 := (Is.made (((((w.alloc (.cells #[.string ⟨#[115, 116, 114, 97, 105, 103, 104, 116]⟩, .int .i64 6, .int .i64 6, .int .i64 30, .int .i64 0, .int .i64 0] 128 (0, 0))).alloc (.cells #[.string ⟨#[102, 108, 97, 116]⟩, .int .i64 9, .int .i64 0, .int .i64 0, .int .i64 0, .int .i64 0] 128 (0, 0))).alloc (.cells #[.string ⟨#[112, 97, 114, 97, 108, 108, 101, 108]⟩, .int .i64 15, .int .i64 6, .int .i64 30, .int .i64 1, .int .i64 2] 128 (0, 0))).alloc (.cells #[.string ⟨#[115, 113, 117, 97, 114, 101]⟩, .int .i64 15, .int .i64 6, .int .i64 30, .int .i64 1, .int .i64 2] 128 (0, 0))).alloc (.cells #[.string ⟨#[114, 111, 117, 110, 100]⟩, .int .i64 22, .int .i64 0, .int .i64 0, .int .i64 0, .int .i64 0] 128 (0, 0))) #[.string ⟨#[115, 112, 104, 101, 114, 101]⟩, .int .i64 16, .int .i64 0, .int .i64 0, .int .i64 0, .int .i64 0] 128)
  simp only [World.size_alloc] at j65
  have f66 := j65.c (i := 0) rfl
  go_wp2_with fail
  rw [rounds_succ]
  have j67 := (Is.made ((((((w.alloc (.cells #[.string ⟨#[115, 116, 114, 97, 105, 103, 104, 116]⟩, .int .i64 6, .int .i64 6, .int .i64 30, .int .i64 0, .int .i64 0] 128 (0, 0))).alloc (.cells #[.string ⟨#[102, 108, 97, 116]⟩, .int .i64 9, .int .i64 0, .int .i64 0, .int .i64 0, .int .i64 0] 128 (0, 0))).alloc (.cells #[.string ⟨#[112, 97, 114, 97, 108, 108, 101, 108]⟩, .int .i64 15, .int .i64 6, .int .i64 30, .int .i64 1, .int .i64 2] 128 (0, 0))).alloc (.cells #[.string ⟨#[115, 113, 117, 97, 114, 101]⟩, .int .i64 15, .int .i64 6, .int .i64 30, .int .i64 1, .int .i64 2] 128 (0, 0))).alloc (.cells #[.string ⟨#[114, 111, 117, 110, 100]⟩, .int .i64 22, .int .i64 0, .int .i64 0, .int .i64 0, .int .i64 0] 128 (0, 0))).alloc (.cells #[.string ⟨#[115, 112, 104, 101, 114, 101]⟩, .int .i64 16, .int .i64 0, .int .i64 0, .int .i64 0, .int .i64 0] 128 (0, 0))) #[.string ⟨#[112, 114, 111, 102, 105, 108, 101]⟩, .int .i64 1, .int .i64 0, .int .i64 0, .int .i64 0, .int .i64 3] 128)
  simp only [World.size_alloc] at j67
  have f68 := j67.c (i := 0) rfl
  go_wp2
  go_ret
  clear f56 f58 f60 f62 f64 f66 f68
  replace kx := ((((((kx.alloc (.cells #[.string ⟨#[115, 116, 114, 97, 105, 103, 104, 116]⟩, .int .i64 6, .int .i64 6, .int .i64 30, .int .i64 0, .int .i64 0] 128 (0, 0))).alloc (.cells #[.string ⟨#[102, 108, 97, 116]⟩, .int .i64 9, .int .i64 0, .int .i64 0, .int .i64 0, .int .i64 0] 128 (0, 0))).alloc (.cells #[.string ⟨#[112, 97, 114, 97, 108, 108, 101, 108]⟩, .int .i64 15, .int .i64 6, .int .i64 30, .int .i64 1, .int .i64 2] 128 (0, 0))).alloc (.cells #[.string ⟨#[115, 113, 117, 97, 114, 101]⟩, .int .i64 15, .int .i64 6, .int .i64 30, .int .i64 1, .int .i64 2] 128 (0, 0))).alloc (.cells #[.string ⟨#[114, 111, 117, 110, 100]⟩, .int .i64 22, .int .i64 0, .int .i64 0, .int .i64 0, .int .i64 0] 128 (0, 0))).alloc (.cells #[.string ⟨#[115, 112, 104, 101, 114, 101]⟩, .int .i64 16, .int .i64 0, .int .i64 0, .int .i64 0, .int .i64 0] 128 (0, 0))).alloc (.cells #[.string ⟨#[112, 114, 111, 102, 105, 108, 101]⟩, .int .i64 1, .int .i64 0, .int .i64 0, .int .i64 0, .int .i64 3] 128 (0, 0))
  exact ⟨rfl, kx⟩
set_option maxRecDepth 100000 in
set_option maxHeartbeats 4000000 in
theorem fchar_8 (w0 : World) (wd : ByteArray)      (h1 : (([115, 116, 114, 97, 105, 103, 104, 116] : List UInt8) == wd.toList) = false) (h2 : (([102, 108, 97, 116] : List UInt8) == wd.toList) = false) (h3 : (([112, 97, 114, 97, 108, 108, 101, 108] : List UInt8) == wd.toList) = false) (h4 : (([115, 113, 117, 97, 114, 101] : List UInt8) == wd.toList) = false) (h5 : (([114, 111, 117, 110, 100] : List UInt8) == wd.toList) = false) (h6 : (([115, 112, 104, 101, 114, 101] : List UInt8) == wd.toList) = false) (h7 : (([112, 114, 111, 102, 105, 108, 101] : List UInt8) == wd.toList) = false) (h8 : (([114, 117, 110, 111, 117, 116] : List UInt8) == wd.toList) = true) (w : World) (gl : Gf w0 w)  : Calls Tryz.prog 110 #[.string wd] w fun r W' => r = .returned (.int .i64 7) ∧ Kb w W' := by
  have gta := gl.ta
  have gtb := gl.tb
  have gtc := gl.tc
  have kx := Kb.refl w
  have gl0 := Lib.hid gl
  have gta0 := Lib.hid gta
  have gtb0 := Lib.hid gtb
  have gtc0 := Lib.hid gtc
  have ix0 := idxK0
  have ix1 := idxK1
  have ix2 := idxK2
  have ix3 := idxK3
  have ix4 := idxK4
  have ix5 := idxK5
  have ix6 := idxK6
  have ix7 := idxK7
  have ix8 := idxK8
  go_enter Tryz.func110, Tryz.ntmps110
  go_wp2_with (first | (refine wpList_load_mid rfl 129 _ rfl 2 0 rfl GtbL _ gtb.range Tryz.underlying129 rfl (by kernel_rfl) ?_) | fail)
  generalize Value.agg GtbL.toArray = AV at *
  refine wp_loop_rounds 8 ?_
  rw [rounds_succ]
  have j55 := (Is.made w #[.string ⟨#[115, 116, 114, 97, 105, 103, 104, 116]⟩, .int .i64 6, .int .i64 6, .int .i64 30, .int .i64 0, .int .i64 0] 128)
  have f56 := j55.c (i := 0) rfl
  go_wp2_with fail
  rw [rounds_succ]
  have j57 := (Is.made (w.alloc (.cells #[.string ⟨#[115, 116, 114, 97, 105, 103, 104, 116]⟩, .int .i64 6, .int .i64 6, .int .i64 30, .int .i64 0, .int .i64 0] 128 (0, 0))) #[.string ⟨#[102, 108, 97, 116]⟩, .int .i64 9, .int .i64 0, .int .i64 0, .int .i64 0, .int .i64 0] 128)
  simp only [World.size_alloc] at j57
  have f58 := j57.c (i := 0) rfl
  go_wp2_with fail
  rw [rounds_succ]
  have j59 := (Is.made ((w.alloc (.cells #[.string ⟨#[115, 116, 114, 97, 105, 103, 104, 116]⟩, .int .i64 6, .int .i64 6, .int .i64 30, .int .i64 0, .int .i64 0] 128 (0, 0))).alloc (.cells #[.string ⟨#[102, 108, 97, 116]⟩, .int .i64 9, .int .i64 0, .int .i64 0, .int .i64 0, .int .i64 0] 128 (0, 0))) #[.string ⟨#[112, 97, 114, 97, 108, 108, 101, 108]⟩, .int .i64 15, .int .i64 6, .int .i64 30, .int .i64 1, .int .i64 2] 128)
  simp only [World.size_alloc] at j59
  have f60 := j59.c (i := 0) rfl
  go_wp2_with fail
  rw [rounds_succ]
  have j61 := (Is.made (((w.alloc (.cells #[.string ⟨#[115, 116, 114, 97, 105, 103, 104, 116]⟩, .int .i64 6, .int .i64 6, .int .i64 30, .int .i64 0, .int .i64 0] 128 (0, 0))).alloc (.cells #[.string ⟨#[102, 108, 97, 116]⟩, .int .i64 9, .int .i64 0, .int .i64 0, .int .i64 0, .int .i64 0] 128 (0, 0))).alloc (.cells #[.string ⟨#[112, 97, 114, 97, 108, 108, 101, 108]⟩, .int .i64 15, .int .i64 6, .int .i64 30, .int .i64 1, .int .i64 2] 128 (0, 0))) #[.string ⟨#[115, 113, 117, 97, 114, 101]⟩, .int .i64 15, .int .i64 6, .int .i64 30, .int .i64 1, .int .i64 2] 128)
  simp only [World.size_alloc] at j61
  have f62 := j61.c (i := 0) rfl
  go_wp2_with fail
  rw [rounds_succ]
  have j63 := (Is.made ((((w.alloc (.cells #[.string ⟨#[115, 116, 114, 97, 105, 103, 104, 116]⟩, .int .i64 6, .int .i64 6, .int .i64 30, .int .i64 0, .int .i64 0] 128 (0, 0))).alloc (.cells #[.string ⟨#[102, 108, 97, 116]⟩, .int .i64 9, .int .i64 0, .int .i64 0, .int .i64 0, .int .i64 0] 128 (0, 0))).alloc (.cells #[.string ⟨#[112, 97, 114, 97, 108, 108, 101, 108]⟩, .int .i64 15, .int .i64 6, .int .i64 30, .int .i64 1, .int .i64 2] 128 (0, 0))).alloc (.cells #[.string ⟨#[115, 113, 117, 97, 114, 101]⟩, .int .i64 15, .int .i64 6, .int .i64 30, .int .i64 1, .int .i64 2] 128 (0, 0))) #[.string ⟨#[114, 111, 117, 110, 100]⟩, .int .i64 22, .int .i64 0, .int .i64 0, .int .i64 0, .int .i64 0] 128)
  simp only [World.size_alloc] at j63
  have f64 := j63.c (i := 0) rfl
  go_wp2_with fail
  rw [rounds_succ]
  have j65 := (Is.made (((((w.alloc (.cells #[.string ⟨#[115, 116, 114, 97, 105, 103, 104, 116]⟩, .int .i64 6, .int .i64 6, .int .i64 30, .int .i64 0, .int .i64 0] 128 (0, 0))).alloc (.cells #[.string ⟨#[102, 108, 97, 116]⟩, .int .i64 9, .int .i64 0, .int .i64 0, .int .i64 0, .int .i64 0] 128 (0, 0))).alloc (.cells #[.string ⟨#[112, 97, 114, 97, 108, 108, 101, 108]⟩, .int .i64 15, .int .i64 6, .int .i64 30, .int .i64 1, .int .i64 2] 128 (0, 0))).alloc (.cells #[.string ⟨#[115, 113, 117, 97, 114, 101]⟩, .int .i64 15, .int .i64 6, .int .i64 30, .int .i64 1, .int .i64 2] 128 (0, 0))).alloc (.cells #[.string ⟨#[114, 111, 117, 110, 100]⟩, .int .i64 22, .int .i64 0, .int .i64 0, .int .i64 0, .int .i64 0] 128 (0, 0))) #[.string ⟨#[115, 112, 104, 101, 114, 101]⟩, .int .i64 16, .int .i64 0, .int .i64 0, .int .i64 0, .int .i64 0] 128)
  simp only [World.size_alloc] at j65
  have f66 := j65.c (i := 0) rfl
  go_wp2_with fail
  rw [rounds_succ]
  have j67 := (Is.made ((((((w.alloc (.cells #[.string ⟨#[115, 116, 114, 97, 105, 103, 104, 116]⟩, .int .i64 6, .int .i64 6, .int .i64 30, .int .i64 0, .int .i64 0] 128 (0, 0))).alloc (.cells #[.string ⟨#[102, 108, 97, 116]⟩, .int .i64 9, .int .i64 0, .int .i64 0, .int .i64 0, .int .i64 0] 128 (0, 0))).alloc (.cells #[.string ⟨#[112, 97, 114, 97, 108, 108, 101, 108]⟩, .int .i64 15, .int .i64 6, .int .i64 30, .int .i64 1, .int .i64 2] 128 (0, 0))).alloc (.cells #[.string ⟨#[115, 113, 117, 97, 114, 101]⟩, .int .i64 15, .int .i64 6, .int .i64 30, .int .i64 1, .int .i64 2] 128 (0, 0))).alloc (.cells #[.string ⟨#[114, 111, 117, 110, 100]⟩, .int .i64 22, .int .i64 0, .int .i64 0, .int .i64 0, .int .i64 0] 128 (0, 0))).alloc (.cells #[.string ⟨#[115, 112, 104, 101, 114, 101]⟩, .int .i64 16, .int .i64 0, .int .i64 0, .int .i64 0, .int .i64 0] 128 (0, 0))) #[.string ⟨#[112, 114, 111, 102, 105, 108, 101]⟩, .int .i64 1, .int .i64 0, .int .i64 0, .int .i64 0, .int .i64 3] 128)
  simp only [World.size_alloc] at j67
  have f68 := j67.c (i := 0) rfl
  go_wp2_with fail
  rw [rounds_succ]
  have j69 := (Is.made (((((((w.alloc (.cells #[.string ⟨#[115, 116, 114, 97, 105, 103, 104, 116]⟩, .int .i64 6, .int .i64 6, .int .i64 30, .int .i64 0, .int .i64 0] 128 (0, 0))).alloc (.cells #[.string ⟨#[102, 108, 97, 116]⟩, .int .i64 9, .int .i64 0, .int .i64 0, .int .i64 0, .int .i64 0] 128 (0, 0))).alloc (.cells #[.string ⟨#[112, 97, 114, 97, 108, 108, 101, 108]⟩, .int .i64 15, .int .i64 6, .int .i64 30, .int .i64 1, .int .i64 2] 128 (0, 0))).alloc (.cells #[.string ⟨#[115, 113, 117, 97, 114, 101]⟩, .int .i64 15, .int .i64 6, .int .i64 30, .int .i64 1, .int .i64 2] 128 (0, 0))).alloc (.cells #[.string ⟨#[114, 111, 117, 110, 100]⟩, .int .i64 22, .int .i64 0, .int .i64 0, .int .i64 0, .int .i64 0] 128 (0, 0))).alloc (.cells #[.string ⟨#[115, 112, 104, 101, 114, 101]⟩, .int .i64 16, .int .i64 0, .int .i64 0, .int .i64 0, .int .i64 0] 128 (0, 0))).alloc (.cells #[.string ⟨#[112, 114, 111, 102, 105, 108, 101]⟩, .int .i64 1, .int .i64 0, .int .i64 0, .int .i64 0, .int .i64 3] 128 (0, 0))) #[.string ⟨#[114, 117, 110, 111, 117, 116]⟩, .int .i64 7, .int .i64 0, .int .i64 0, .int .i64 1, .int .i64 1] 128)
  simp only [World.size_alloc] at j69
  have f70 := j69.c (i := 0) rfl
  go_wp2
  go_ret
  clear f56 f58 f60 f62 f64 f66 f68 f70
  replace kx := (((((((kx.alloc (.cells #[.string ⟨#[115, 116, 114, 97, 105, 103, 104, 116]⟩, .int .i64 6, .int .i64 6, .int .i64 30, .int .i64 0, .int .i64 0] 128 (0, 0))).alloc (.cells #[.string ⟨#[102, 108, 97, 116]⟩, .int .i64 9, .int .i64 0, .int .i64 0, .int .i64 0, .int .i64 0] 128 (0, 0))).alloc (.cells #[.string ⟨#[112, 97, 114, 97, 108, 108, 101, 108]⟩, .int .i64 15, .int .i64 6, .int .i64 30, .int .i64 1, .int .i64 2] 128 (0, 0))).alloc (.cells #[.string ⟨#[115, 113, 117, 97, 114, 101]⟩, .int .i64 15, .int .i64 6, .int .i64 30, .int .i64 1, .int .i64 2] 128 (0, 0))).alloc (.cells #[.string ⟨#[114, 111, 117, 110, 100]⟩, .int .i64 22, .int .i64 0, .int .i64 0, .int .i64 0, .int .i64 0] 128 (0, 0))).alloc (.cells #[.string ⟨#[115, 112, 104, 101, 114, 101]⟩, .int .i64 16, .int .i64 0, .int .i64 0, .int .i64 0, .int .i64 0] 128 (0, 0))).alloc (.cells #[.string ⟨#[112, 114, 111, 102, 105, 108, 101]⟩, .int .i64 1, .int .i64 0, .int .i64 0, .int .i64 0, .int .i64 3] 128 (0, 0))).alloc (.cells #[.string ⟨#[114, 117, 110, 111, 117, 116]⟩, .int .i64 7, .int .i64 0, .int .i64 0, .int .i64 1, .int .i64 1] 128 (0, 0))
  exact ⟨rfl, kx⟩
set_option maxRecDepth 100000 in
set_option maxHeartbeats 4000000 in
theorem fchar_9 (w0 : World) (wd : ByteArray)      (h1 : (([115, 116, 114, 97, 105, 103, 104, 116] : List UInt8) == wd.toList) = false) (h2 : (([102, 108, 97, 116] : List UInt8) == wd.toList) = false) (h3 : (([112, 97, 114, 97, 108, 108, 101, 108] : List UInt8) == wd.toList) = false) (h4 : (([115, 113, 117, 97, 114, 101] : List UInt8) == wd.toList) = false) (h5 : (([114, 111, 117, 110, 100] : List UInt8) == wd.toList) = false) (h6 : (([115, 112, 104, 101, 114, 101] : List UInt8) == wd.toList) = false) (h7 : (([112, 114, 111, 102, 105, 108, 101] : List UInt8) == wd.toList) = false) (h8 : (([114, 117, 110, 111, 117, 116] : List UInt8) == wd.toList) = false) (h9 : (([112, 111, 115, 105, 116, 105, 111, 110] : List UInt8) == wd.toList) = true) (w : World) (gl : Gf w0 w)  : Calls Tryz.prog 110 #[.string wd] w fun r W' => r = .returned (.int .i64 8) ∧ Kb w W' := by
  have gta := gl.ta
  have gtb := gl.tb
  have gtc := gl.tc
  have kx := Kb.refl w
  have gl0 := Lib.hid gl
  have gta0 := Lib.hid gta
  have gtb0 := Lib.hid gtb
  have gtc0 := Lib.hid gtc
  have ix0 := idxK0
  have ix1 := idxK1
  have ix2 := idxK2
  have ix3 := idxK3
  have ix4 := idxK4
  have ix5 := idxK5
  have ix6 := idxK6
  have ix7 := idxK7
  have ix8 := idxK8
  go_enter Tryz.func110, Tryz.ntmps110
  go_wp2_with (first | (refine wpList_load_mid rfl 129 _ rfl 2 0 rfl GtbL _ gtb.range Tryz.underlying129 rfl (by kernel_rfl) ?_) | fail)
  generalize Value.agg GtbL.toArray = AV at *
  refine wp_loop_rounds 9 ?_
  rw [rounds_succ]
  have j55 := (Is.made w #[.string ⟨#[115, 116, 114, 97, 105, 103, 104, 116]⟩, .int .i64 6, .int .i64 6, .int .i64 30, .int .i64 0, .int .i64 0] 128)
  have f56 := j55.c (i := 0) rfl
  go_wp2_with fail
  rw [rounds_succ]
  have j57 := (Is.made (w.alloc (.cells #[.string ⟨#[115, 116, 114, 97, 105, 103, 104, 116]⟩, .int .i64 6, .int .i64 6, .int .i64 30, .int .i64 0, .int .i64 0] 128 (0, 0))) #[.string ⟨#[102, 108, 97, 116]⟩, .int .i64 9, .int .i64 0, .int .i64 0, .int .i64 0, .int .i64 0] 128)
  simp only [World.size_alloc] at j57
  have f58 := j57.c (i := 0) rfl
  go_wp2_with fail
  rw [rounds_succ]
  have j59 := (Is.made ((w.alloc (.cells #[.string ⟨#[115, 116, 114, 97, 105, 103, 104, 116]⟩, .int .i64 6, .int .i64 6, .int .i64 30, .int .i64 0, .int .i64 0] 128 (0, 0))).alloc (.cells #[.string ⟨#[102, 108, 97, 116]⟩, .int .i64 9, .int .i64 0, .int .i64 0, .int .i64 0, .int .i64 0] 128 (0, 0))) #[.string ⟨#[112, 97, 114, 97, 108, 108, 101, 108]⟩, .int .i64 15, .int .i64 6, .int .i64 30, .int .i64 1, .int .i64 2] 128)
  simp only [World.size_alloc] at j59
  have f60 := j59.c (i := 0) rfl
  go_wp2_with fail
  rw [rounds_succ]
  have j61 := (Is.made (((w.alloc (.cells #[.string ⟨#[115, 116, 114, 97, 105, 103, 104, 116]⟩, .int .i64 6, .int .i64 6, .int .i64 30, .int .i64 0, .int .i64 0] 128 (0, 0))).alloc (.cells #[.string ⟨#[102, 108, 97, 116]⟩, .int .i64 9, .int .i64 0, .int .i64 0, .int .i64 0, .int .i64 0] 128 (0, 0))).alloc (.cells #[.string ⟨#[112, 97, 114, 97, 108, 108, 101, 108]⟩, .int .i64 15, .int .i64 6, .int .i64 30, .int .i64 1, .int .i64 2] 128 (0, 0))) #[.string ⟨#[115, 113, 117, 97, 114, 101]⟩, .int .i64 15, .int .i64 6, .int .i64 30, .int .i64 1, .int .i64 2] 128)
  simp only [World.size_alloc] at j61
  have f62 := j61.c (i := 0) rfl
  go_wp2_with fail
  rw [rounds_succ]
  have j63 := (Is.made ((((w.alloc (.cells #[.string ⟨#[115, 116, 114, 97, 105, 103, 104, 116]⟩, .int .i64 6, .int .i64 6, .int .i64 30, .int .i64 0, .int .i64 0] 128 (0, 0))).alloc (.cells #[.string ⟨#[102, 108, 97, 116]⟩, .int .i64 9, .int .i64 0, .int .i64 0, .int .i64 0, .int .i64 0] 128 (0, 0))).alloc (.cells #[.string ⟨#[112, 97, 114, 97, 108, 108, 101, 108]⟩, .int .i64 15, .int .i64 6, .int .i64 30, .int .i64 1, .int .i64 2] 128 (0, 0))).alloc (.cells #[.string ⟨#[115, 113, 117, 97, 114, 101]⟩, .int .i64 15, .int .i64 6, .int .i64 30, .int .i64 1, .int .i64 2] 128 (0, 0))) #[.string ⟨#[114, 111, 117, 110, 100]⟩, .int .i64 22, .int .i64 0, .int .i64 0, .int .i64 0, .int .i64 0] 128)
  simp only [World.size_alloc] at j63
  have f64 := j63.c (i := 0) rfl
  go_wp2_with fail
  rw [rounds_succ]
  have j65 := (Is.made (((((w.alloc (.cells #[.string ⟨#[115, 116, 114, 97, 105, 103, 104, 116]⟩, .int .i64 6, .int .i64 6, .int .i64 30, .int .i64 0, .int .i64 0] 128 (0, 0))).alloc (.cells #[.string ⟨#[102, 108, 97, 116]⟩, .int .i64 9, .int .i64 0, .int .i64 0, .int .i64 0, .int .i64 0] 128 (0, 0))).alloc (.cells #[.string ⟨#[112, 97, 114, 97, 108, 108, 101, 108]⟩, .int .i64 15, .int .i64 6, .int .i64 30, .int .i64 1, .int .i64 2] 128 (0, 0))).alloc (.cells #[.string ⟨#[115, 113, 117, 97, 114, 101]⟩, .int .i64 15, .int .i64 6, .int .i64 30, .int .i64 1, .int .i64 2] 128 (0, 0))).alloc (.cells #[.string ⟨#[114, 111, 117, 110, 100]⟩, .int .i64 22, .int .i64 0, .int .i64 0, .int .i64 0, .int .i64 0] 128 (0, 0))) #[.string ⟨#[115, 112, 104, 101, 114, 101]⟩, .int .i64 16, .int .i64 0, .int .i64 0, .int .i64 0, .int .i64 0] 128)
  simp only [World.size_alloc] at j65
  have f66 := j65.c (i := 0) rfl
  go_wp2_with fail
  rw [rounds_succ]
  have j67 := (Is.made ((((((w.alloc (.cells #[.string ⟨#[115, 116, 114, 97, 105, 103, 104, 116]⟩, .int .i64 6, .int .i64 6, .int .i64 30, .int .i64 0, .int .i64 0] 128 (0, 0))).alloc (.cells #[.string ⟨#[102, 108, 97, 116]⟩, .int .i64 9, .int .i64 0, .int .i64 0, .int .i64 0, .int .i64 0] 128 (0, 0))).alloc (.cells #[.string ⟨#[112, 97, 114, 97, 108, 108, 101, 108]⟩, .int .i64 15, .int .i64 6, .int .i64 30, .int .i64 1, .int .i64 2] 128 (0, 0))).alloc (.cells #[.string ⟨#[115, 113, 117, 97, 114, 101]⟩, .int .i64 15, .int .i64 6, .int .i64 30, .int .i64 1, .int .i64 2] 128 (0, 0))).alloc (.cells #[.string ⟨#[114, 111, 117, 110, 100]⟩, .int .i64 22, .int .i64 0, .int .i64 0, .int .i64 0, .int .i64 0] 128 (0, 0))).alloc (.cells #[.string ⟨#[115, 112, 104, 101, 114, 101]⟩, .int .i64 16, .int .i64 0, .int .i64 0, .int .i64 0, .int .i64 0] 128 (0, 0))) #[.string ⟨#[112, 114, 111, 102, 105, 108, 101]⟩, .int .i64 1, .int .i64 0, .int .i64 0, .int .i64 0, .int .i64 3] 128)
  simp only [World.size_alloc] at j67
  have f68 := j67.c (i := 0) rfl
  go_wp2_with fail
  rw [rounds_succ]
  have j69 := (Is.made (((((((w.alloc (.cells #[.string ⟨#[115, 116, 114, 97, 105, 103, 104, 116]⟩, .int .i64 6, .int .i64 6, .int .i64 30, .int .i64 0, .int .i64 0] 128 (0, 0))).alloc (.cells #[.string ⟨#[102, 108, 97, 116]⟩, .int .i64 9, .int .i64 0, .int .i64 0, .int .i64 0, .int .i64 0] 128 (0, 0))).alloc (.cells #[.string ⟨#[112, 97, 114, 97, 108, 108, 101, 108]⟩, .int .i64 15, .int .i64 6, .int .i64 30, .int .i64 1, .int .i64 2] 128 (0, 0))).alloc (.cells #[.string ⟨#[115, 113, 117, 97, 114, 101]⟩, .int .i64 15, .int .i64 6, .int .i64 30, .int .i64 1, .int .i64 2] 128 (0, 0))).alloc (.cells #[.string ⟨#[114, 111, 117, 110, 100]⟩, .int .i64 22, .int .i64 0, .int .i64 0, .int .i64 0, .int .i64 0] 128 (0, 0))).alloc (.cells #[.string ⟨#[115, 112, 104, 101, 114, 101]⟩, .int .i64 16, .int .i64 0, .int .i64 0, .int .i64 0, .int .i64 0] 128 (0, 0))).alloc (.cells #[.string ⟨#[112, 114, 111, 102, 105, 108, 101]⟩, .int .i64 1, .int .i64 0, .int .i64 0, .int .i64 0, .int .i64 3] 128 (0, 0))) #[.string ⟨#[114, 117, 110, 111, 117, 116]⟩, .int .i64 7, .int .i64 0, .int .i64 0, .int .i64 1, .int .i64 1] 128)
  simp only [World.size_alloc] at j69
  have f70 := j69.c (i := 0) rfl
  go_wp2_with fail
  rw [rounds_succ]
  have j71 := (Is.made ((((((((w.alloc (.cells #[.string ⟨#[115, 116, 114, 97, 105, 103, 104, 116]⟩, .int .i64 6, .int .i64 6, .int .i64 30, .int .i64 0, .int .i64 0] 128 (0, 0))).alloc (.cells #[.string ⟨#[102, 108, 97, 116]⟩, .int .i64 9, .int .i64 0, .int .i64 0, .int .i64 0, .int .i64 0] 128 (0, 0))).alloc (.cells #[.string ⟨#[112, 97, 114, 97, 108, 108, 101, 108]⟩, .int .i64 15, .int .i64 6, .int .i64 30, .int .i64 1, .int .i64 2] 128 (0, 0))).alloc (.cells #[.string ⟨#[115, 113, 117, 97, 114, 101]⟩, .int .i64 15, .int .i64 6, .int .i64 30, .int .i64 1, .int .i64 2] 128 (0, 0))).alloc (.cells #[.string ⟨#[114, 111, 117, 110, 100]⟩, .int .i64 22, .int .i64 0, .int .i64 0, .int .i64 0, .int .i64 0] 128 (0, 0))).alloc (.cells #[.string ⟨#[115, 112, 104, 101, 114, 101]⟩, .int .i64 16, .int .i64 0, .int .i64 0, .int .i64 0, .int .i64 0] 128 (0, 0))).alloc (.cells #[.string ⟨#[112, 114, 111, 102, 105, 108, 101]⟩, .int .i64 1, .int .i64 0, .int .i64 0, .int .i64 0, .int .i64 3] 128 (0, 0))).alloc (.cells #[.string ⟨#[114, 117, 110, 111, 117, 116]⟩, .int .i64 7, .int .i64 0, .int .i64 0, .int .i64 1, .int .i64 1] 128 (0, 0))) #[.string ⟨#[112, 111, 115, 105, 116, 105, 111, 110]⟩, .int .i64 31, .int .i64 22, .int .i64 30, .int .i64 0, .int .i64 3] 128)
  simp only [World.size_alloc] at j71
  have f72 := j71.c (i := 0) rfl
  go_wp2
  go_ret
  clear f56 f58 f60 f62 f64 f66 f68 f70 f72
  replace kx := ((((((((kx.alloc (.cells #[.string ⟨#[115, 116, 114, 97, 105, 103, 104, 116]⟩, .int .i64 6, .int .i64 6, .int .i64 30, .int .i64 0, .int .i64 0] 128 (0, 0))).alloc (.cells #[.string ⟨#[102, 108, 97, 116]⟩, .int .i64 9, .int .i64 0, .int .i64 0, .int .i64 0, .int .i64 0] 128 (0, 0))).alloc (.cells #[.string ⟨#[112, 97, 114, 97, 108, 108, 101, 108]⟩, .int .i64 15, .int .i64 6, .int .i64 30, .int .i64 1, .int .i64 2] 128 (0, 0))).alloc (.cells #[.string ⟨#[115, 113, 117, 97, 114, 101]⟩, .int .i64 15, .int .i64 6, .int .i64 30, .int .i64 1, .int .i64 2] 128 (0, 0))).alloc (.cells #[.string ⟨#[114, 111, 117, 110, 100]⟩, .int .i64 22, .int .i64 0, .int .i64 0, .int .i64 0, .int .i64 0] 128 (0, 0))).alloc (.cells #[.string ⟨#[115, 112, 104, 101, 114, 101]⟩, .int .i64 16, .int .i64 0, .int .i64 0, .int .i64 0, .int .i64 0] 128 (0, 0))).alloc (.cells #[.string ⟨#[112, 114, 111, 102, 105, 108, 101]⟩, .int .i64 1, .int .i64 0, .int .i64 0, .int .i64 0, .int .i64 3] 128 (0, 0))).alloc (.cells #[.string ⟨#[114, 117, 110, 111, 117, 116]⟩, .int .i64 7, .int .i64 0, .int .i64 0, .int .i64 1, .int .i64 1] 128 (0, 0))).alloc (.cells #[.string ⟨#[112, 111, 115, 105, 116, 105, 111, 110]⟩, .int .i64 31, .int .i64 22, .int .i64 30, .int .i64 0, .int .i64 3] 128 (0, 0))
  exact ⟨rfl, kx⟩
set_option maxRecDepth 100000 in
set_option maxHeartbeats 4000000 in
theorem fchar_10 (w0 : World) (wd : ByteArray)      (h1 : (([115, 116, 114, 97, 105, 103, 104, 116] : List UInt8) == wd.toList) = false) (h2 : (([102, 108, 97, 116] : List UInt8) == wd.toList) = false) (h3 : (([112, 97, 114, 97, 108, 108, 101, 108] : List UInt8) == wd.toList) = false) (h4 : (([115, 113, 117, 97, 114, 101] : List UInt8) == wd.toList) = false) (h5 : (([114, 111, 117, 110, 100] : List UInt8) == wd.toList) = false) (h6 : (([115, 112, 104, 101, 114, 101] : List UInt8) == wd.toList) = false) (h7 : (([112, 114, 111, 102, 105, 108, 101] : List UInt8) == wd.toList) = false) (h8 : (([114, 117, 110, 111, 117, 116] : List UInt8) == wd.toList) = false) (h9 : (([112, 111, 115, 105, 116, 105, 111, 110] : List UInt8) == wd.toList) = false) (w : World) (gl : Gf w0 w)  : Calls Tryz.prog 110 #[.string wd] w fun r W' => r = .returned (.int .i64 9) ∧ Kb w W' := by
  have gta := gl.ta
  have gtb := gl.tb
  have gtc := gl.tc
  have kx := Kb.refl w
  have gl0 := Lib.hid gl
  have gta0 := Lib.hid gta
  have gtb0 := Lib.hid gtb
  have gtc0 := Lib.hid gtc
  have ix0 := idxK0
  have ix1 := idxK1
  have ix2 := idxK2
  have ix3 := idxK3
  have ix4 := idxK4
  have ix5 := idxK5
  have ix6 := idxK6
  have ix7 := idxK7
  have ix8 := idxK8
  go_enter Tryz.func110, Tryz.ntmps110
  go_wp2_with (first | (refine wpList_load_mid rfl 129 _ rfl 2 0 rfl GtbL _ gtb.range Tryz.underlying129 rfl (by kernel_rfl) ?_) | fail)
  generalize Value.agg GtbL.toArray = AV at *
  refine wp_loop_rounds 10 ?_
  rw [rounds_succ]
  have j55 := (Is.made w #[.string ⟨#[115, 116, 114, 97, 105, 103, 104, 116]⟩, .int .i64 6, .int .i64 6, .int .i64 30, .int .i64 0, .int .i64 0] 128)
  have f56 := j55.c (i := 0) rfl
  go_wp2_with fail
  rw [rounds_succ]
  have j57 := (Is.made (w.alloc (.cells #[.string ⟨#[115, 116, 114, 97, 105, 103, 104, 116]⟩, .int .i64 6, .int .i64 6, .int .i64 30, .int .i64 0, .int .i64 0] 128 (0, 0))) #[.string ⟨#[102, 108, 97, 116]⟩, .int .i64 9, .int .i64 0, .int .i64 0, .int .i64 0, .int .i64 0] 128)
  simp only [World.size_alloc] at j57
  have f58 := j57.c (i := 0) rfl
  go_wp2_with fail
  rw [rounds_succ]
  have j59 := (Is.made ((w.alloc (.cells #[.string ⟨#[115, 116, 114, 97, 105, 103, 104, 116]⟩, .int .i64 6, .int .i64 6, .int .i64 30, .int .i64 0, .int .i64 0] 128 (0, 0))).alloc (.cells #[.string ⟨#[102, 108, 97, 116]⟩, .int .i64 9, .int .i64 0, .int .i64 0, .int .i64 0, .int .i64 0] 128 (0, 0))) #[.string ⟨#[112, 97, 114, 97, 108, 108, 101, 108]⟩, .int .i64 15, .int .i64 6, .int .i64 30, .int .i64 1, .int .i64 2] 128)
  simp only [World.size_alloc] at j59
  have f60 := j59.c (i := 0) rfl
  go_wp2_with fail
  rw [rounds_succ]
  have j61 := (Is.made (((w.alloc (.cells #[.string ⟨#[115, 116, 114, 97, 105, 103, 104, 116]⟩, .int .i64 6, .int .i64 6, .int .i64 30, .int .i64 0, .int .i64 0] 128 (0, 0))).alloc (.cells #[.string ⟨#[102, 108, 97, 116]⟩, .int .i64 9, .int .i64 0, .int .i64 0, .int .i64 0, .int .i64 0] 128 (0, 0))).alloc (.cells #[.string ⟨#[112, 97, 114, 97, 108, 108, 101, 108]⟩, .int .i64 15, .int .i64 6, .int .i64 30, .int .i64 1, .int .i64 2] 128 (0, 0))) #[.string ⟨#[115, 113, 117, 97, 114, 101]⟩, .int .i64 15, .int .i64 6, .int .i64 30, .int .i64 1, .int .i64 2] 128)
  simp only [World.size_alloc] at j61
  have f62 := j61.c (i := 0) rfl
  go_wp2_with fail
  rw [rounds_succ]
  have j63 := (Is.made ((((w.alloc (.cells #[.string ⟨#[115, 116, 114, 97, 105, 103, 104, 116]⟩, .int .i64 6, .int .i64 6, .int .i64 30, .int .i64 0, .int .i64 0] 128 (0, 0))).alloc (.cells #[.string ⟨#[102, 108, 97, 116]⟩, .int .i64 9, .int .i64 0, .int .i64 0, .int .i64 0, .int .i64 0] 128 (0, 0))).alloc (.cells #[.string ⟨#[112, 97, 114, 97, 108, 108, 101, 108]⟩, .int .i64 15, .int .i64 6, .int .i64 30, .int .i64 1, .int .i64 2] 128 (0, 0))).alloc (.cells #[.string ⟨#[115, 113, 117, 97, 114, 101]⟩, .int .i64 15, .int .i64 6, .int .i64 30, .int .i64 1, .int .i64 2] 128 (0, 0))) #[.string ⟨#[114, 111, 117, 110, 100]⟩, .int .i64 22, .int .i64 0, .int .i64 0, .int .i64 0, .int .i64 0] 128)
  simp only [World.size_alloc] at j63
  have f64 := j63.c (i := 0) rfl
  go_wp2_with fail
  rw [rounds_succ]
  have j65 := (Is.made (((((w.alloc (.cells #[.string ⟨#[115, 116, 114, 97, 105, 103, 104, 116]⟩, .int .i64 6, .int .i64 6, .int .i64 30, .int .i64 0, .int .i64 0] 128 (0, 0))).alloc (.cells #[.string ⟨#[102, 108, 97, 116]⟩, .int .i64 9, .int .i64 0, .int .i64 0, .int .i64 0, .int .i64 0] 128 (0, 0))).alloc (.cells #[.string ⟨#[112, 97, 114, 97, 108, 108, 101, 108]⟩, .int .i64 15, .int .i64 6, .int .i64 30, .int .i64 1, .int .i64 2] 128 (0, 0))).alloc (.cells #[.string ⟨#[115, 113, 117, 97, 114, 101]⟩, .int .i64 15, .int .i64 6, .int .i64 30, .int .i64 1, .int .i64 2] 128 (0, 0))).alloc (.cells #[.string ⟨#[114, 111, 117, 110, 100]⟩, .int .i64 22, .int .i64 0, .int .i64 0, .int .i64 0, .int .i64 0] 128 (0, 0))) #[.string ⟨#[115, 112, 104, 101, 114, 101]⟩, .int .i64 16, .int .i64 0, .int .i64 0, .int .i64 0, .int .i64 0] 128)
  simp only [World.size_alloc] at j65
  have f66 := j65.c (i := 0) rfl
  go_wp2_with fail
  rw [rounds_succ]
  have j67 := (Is.made ((((((w.alloc (.cells #[.string ⟨#[115, 116, 114, 97, 105, 103, 104, 116]⟩, .int .i64 6, .int .i64 6, .int .i64 30, .int .i64 0, .int .i64 0] 128 (0, 0))).alloc (.cells #[.string ⟨#[102, 108, 97, 116]⟩, .int .i64 9, .int .i64 0, .int .i64 0, .int .i64 0, .int .i64 0] 128 (0, 0))).alloc (.cells #[.string ⟨#[112, 97, 114, 97, 108, 108, 101, 108]⟩, .int .i64 15, .int .i64 6, .int .i64 30, .int .i64 1, .int .i64 2] 128 (0, 0))).alloc (.cells #[.string ⟨#[115, 113, 117, 97, 114, 101]⟩, .int .i64 15, .int .i64 6, .int .i64 30, .int .i64 1, .int .i64 2] 128 (0, 0))).alloc (.cells #[.string ⟨#[114, 111, 117, 110, 100]⟩, .int .i64 22, .int .i64 0, .int .i64 0, .int .i64 0, .int .i64 0] 128 (0, 0))).alloc (.cells #[.string ⟨#[115, 112, 104, 101, 114, 101]⟩, .int .i64 16, .int .i64 0, .int .i64 0, .int .i64 0, .int .i64 0] 128 (0, 0))) #[.string ⟨#[112, 114, 111, 102, 105, 108, 101]⟩, .int .i64 1, .int .i64 0, .int .i64 0, .int .i64 0, .int .i64 3] 128)
  simp only [World.size_alloc] at j67
  have f68 := j67.c (i := 0) rfl
  go_wp2_with fail
  rw [rounds_succ]
  have j69 := (Is.made (((((((w.alloc (.cells #[.string ⟨#[115, 116, 114, 97, 105, 103, 104, 116]⟩, .int .i64 6, .int .i64 6, .int .i64 30, .int .i64 0, .int .i64 0] 128 (0, 0))).alloc (.cells #[.string ⟨#[102, 108, 97, 116]⟩, .int .i64 9, .int .i64 0, .int .i64 0, .int .i64 0, .int .i64 0] 128 (0, 0))).alloc (.cells #[.string ⟨#[112, 97, 114, 97, 108, 108, 101, 108]⟩, .int .i64 15, .int .i64 6, .int .i64 30, .int .i64 1, .int .i64 2] 128 (0, 0))).alloc (.cells #[.string ⟨#[115, 113, 117, 97, 114, 101]⟩, .int .i64 15, .int .i64 6, .int .i64 30, .int .i64 1, .int .i64 2] 128 (0, 0))).alloc (.cells #[.string ⟨#[114, 111, 117, 110, 100]⟩, .int .i64 22, .int .i64 0, .int .i64 0, .int .i64 0, .int .i64 0] 128 (0, 0))).alloc (.cells #[.string ⟨#[115, 112, 104, 101, 114, 101]⟩, .int .i64 16, .int .i64 0, .int .i64 0, .int .i64 0, .int .i64 0] 128 (0, 0))).alloc (.cells #[.string ⟨#[112, 114, 111, 102, 105, 108, 101]⟩, .int .i64 1, .int .i64 0, .int .i64 0, .int .i64 0, .int .i64 3] 128 (0, 0))) #[.string ⟨#[114, 117, 110, 111, 117, 116]⟩, .int .i64 7, .int .i64 0, .int .i64 0, .int .i64 1, .int .i64 1] 128)
  simp only [World.size_alloc] at j69
  have f70 := j69.c (i := 0) rfl
  go_wp2_with fail
  rw [rounds_succ]
  have j71 := (Is.made ((((((((w.alloc (.cells #[.string ⟨#[115, 116, 114, 97, 105, 103, 104, 116]⟩, .int .i64 6, .int .i64 6, .int .i64 30, .int .i64 0, .int .i64 0] 128 (0, 0))).alloc (.cells #[.string ⟨#[102, 108, 97, 116]⟩, .int .i64 9, .int .i64 0, .int .i64 0, .int .i64 0, .int .i64 0] 128 (0, 0))).alloc (.cells #[.string ⟨#[112, 97, 114, 97, 108, 108, 101, 108]⟩, .int .i64 15, .int .i64 6, .int .i64 30, .int .i64 1, .int .i64 2] 128 (0, 0))).alloc (.cells #[.string ⟨#[115, 113, 117, 97, 114, 101]⟩, .int .i64 15, .int .i64 6, .int .i64 30, .int .i64 1, .int .i64 2] 128 (0, 0))).alloc (.cells #[.string ⟨#[114, 111, 117, 110, 100]⟩, .int .i64 22, .int .i64 0, .int .i64 0, .int .i64 0, .int .i64 0] 128 (0, 0))).alloc (.cells #[.string ⟨#[115, 112, 104, 101, 114, 101]⟩, .int .i64 16, .int .i64 0, .int .i64 0, .int .i64 0, .int .i64 0] 128 (0, 0))).alloc (.cells #[.string ⟨#[112, 114, 111, 102, 105, 108, 101]⟩, .int .i64 1, .int .i64 0, .int .i64 0, .int .i64 0, .int .i64 3] 128 (0, 0))).alloc (.cells #[.string ⟨#[114, 117, 110, 111, 117, 116]⟩, .int .i64 7, .int .i64 0, .int .i64 0, .int .i64 1, .int .i64 1] 128 (0, 0))) #[.string ⟨#[112, 111, 115, 105, 116, 105, 111, 110]⟩, .int .i64 31, .int .i64 22, .int .i64 30, .int .i64 0, .int .i64 3] 128)
  simp only [World.size_alloc] at j71
  have f72 := j71.c (i := 0) rfl
  go_wp2_with fail
  rw [rounds_succ]
  go_wp2
  go_ret
  clear f56 f58 f60 f62 f64 f66 f68 f70 f72
  replace kx := ((((((((kx.alloc (.cells #[.string ⟨#[115, 116, 114, 97, 105, 103, 104, 116]⟩, .int .i64 6, .int .i64 6, .int .i64 30, .int .i64 0, .int .i64 0] 128 (0, 0))).alloc (.cells #[.string ⟨#[102, 108, 97, 116]⟩, .int .i64 9, .int .i64 0, .int .i64 0, .int .i64 0, .int .i64 0] 128 (0, 0))).alloc (.cells #[.string ⟨#[112, 97, 114, 97, 108, 108, 101, 108]⟩, .int .i64 15, .int .i64 6, .int .i64 30, .int .i64 1, .int .i64 2] 128 (0, 0))).alloc (.cells #[.string ⟨#[115, 113, 117, 97, 114, 101]⟩, .int .i64 15, .int .i64 6, .int .i64 30, .int .i64 1, .int .i64 2] 128 (0, 0))).alloc (.cells #[.string ⟨#[114, 111, 117, 110, 100]⟩, .int .i64 22, .int .i64 0, .int .i64 0, .int .i64 0, .int .i64 0] 128 (0, 0))).alloc (.cells #[.string ⟨#[115, 112, 104, 101, 114, 101]⟩, .int .i64 16, .int .i64 0, .int .i64 0, .int .i64 0, .int .i64 0] 128 (0, 0))).alloc (.cells #[.string ⟨#[112, 114, 111, 102, 105, 108, 101]⟩, .int .i64 1, .int .i64 0, .int .i64 0, .int .i64 0, .int .i64 3] 128 (0, 0))).alloc (.cells #[.string ⟨#[114, 117, 110, 111, 117, 116]⟩, .int .i64 7, .int .i64 0, .int .i64 0, .int .i64 1, .int .i64 1] 128 (0, 0))).alloc (.cells #[.string ⟨#[112, 111, 115, 105, 116, 105, 111, 110]⟩, .int .i64 31, .int .i64 22, .int .i64 30, .int .i64 0, .int .i64 3] 128 (0, 0))
  exact ⟨rfl, kx⟩
set_option maxRecDepth 100000 in
theorem fchar_any (w0 : World) (wd : ByteArray)    : Cf w0 110 #[.string wd] (if (([115, 116, 114, 97, 105, 103, 104, 116] : List UInt8) == wd.toList) = true then (.int .i64 0) else (if (([102, 108, 97, 116] : List UInt8) == wd.toList) = true then (.int .i64 1) else (if (([112, 97, 114, 97, 108, 108, 101, 108] : List UInt8) == wd.toList) = true then (.int .i64 2) else (if (([115, 113, 117, 97, 114, 101] : List UInt8) == wd.toList) = true then (.int .i64 3) else (if (([114, 111, 117, 110, 100] : List UInt8) == wd.toList) = true then (.int .i64 4) else (if (([115, 112, 104, 101, 114, 101] : List UInt8) == wd.toList) = true then (.int .i64 5) else (if (([112, 114, 111, 102, 105, 108, 101] : List UInt8) == wd.toList) = true then (.int .i64 6) else (if (([114, 117, 110, 111, 117, 116] : List UInt8) == wd.toList) = true then (.int .i64 7) else (if (([112, 111, 115, 105, 116, 105, 111, 110] : List UInt8) == wd.toList) = true then (.int .i64 8) else (.int .i64 9)))))))))) := Lib.hid fun w gl => by
  rcases Bool.eq_false_or_eq_true (([115, 116, 114, 97, 105, 103, 104, 116] : List UInt8) == wd.toList) with h1 | h1
  · rw [if_pos h1]
    exact fchar_1 w0 wd h1 w gl
  · rw [if_neg (by rw [h1]; decide)]
    rcases Bool.eq_false_or_eq_true (([102, 108, 97, 116] : List UInt8) == wd.toList) with h2 | h2
    · rw [if_pos h2]
      exact fchar_2 w0 wd h1 h2 w gl
    · rw [if_neg (by rw [h2]; decide)]
      rcases Bool.eq_false_or_eq_true (([112, 97, 114, 97, 108, 108, 101, 108] : List UInt8) == wd.toList) with h3 | h3
      · rw [if_pos h3]
        exact fchar_3 w0 wd h1 h2 h3 w gl
      · rw [if_neg (by rw [h3]; decide)]
        rcases Bool.eq_false_or_eq_true (([115, 113, 117, 97, 114, 101] : List UInt8) == wd.toList) with h4 | h4
        · rw [if_pos h4]
          exact fchar_4 w0 wd h1 h2 h3 h4 w gl
        · rw [if_neg (by rw [h4]; decide)]
          rcases Bool.eq_false_or_eq_true (([114, 111, 117, 110, 100] : List UInt8) == wd.toList) with h5 | h5
          · rw [if_pos h5]
            exact fchar_5 w0 wd h1 h2 h3 h4 h5 w gl
          · rw [if_neg (by rw [h5]; decide)]
            rcases Bool.eq_false_or_eq_true (([115, 112, 104, 101, 114, 101] : List UInt8) == wd.toList) with h6 | h6
            · rw [if_pos h6]
              exact fchar_6 w0 wd h1 h2 h3 h4 h5 h6 w gl
            · rw [if_neg (by rw [h6]; decide)]
              rcases Bool.eq_false_or_eq_true (([112, 114, 111, 102, 105, 108, 101] : List UInt8) == wd.toList) with h7 | h7
              · rw [if_pos h7]
                exact fchar_7 w0 wd h1 h2 h3 h4 h5 h6 h7 w gl
              · rw [if_neg (by rw [h7]; decide)]
                rcases Bool.eq_false_or_eq_true (([114, 117, 110, 111, 117, 116] : List UInt8) == wd.toList) with h8 | h8
                · rw [if_pos h8]
                  exact fchar_8 w0 wd h1 h2 h3 h4 h5 h6 h7 h8 w gl
                · rw [if_neg (by rw [h8]; decide)]
                  rcases Bool.eq_false_or_eq_true (([112, 111, 115, 105, 116, 105, 111, 110] : List UInt8) == wd.toList) with h9 | h9
                  · rw [if_pos h9]
                    exact fchar_9 w0 wd h1 h2 h3 h4 h5 h6 h7 h8 h9 w gl
                  · rw [if_neg (by rw [h9]; decide)]
                    exact fchar_10 w0 wd h1 h2 h3 h4 h5 h6 h7 h8 h9 w gl
/-- the characteristic with a word -/
def chV (wd : ByteArray) : Int := if (([115, 116, 114, 97, 105, 103, 104, 116] : List UInt8) == wd.toList) = true then 0 else if (([102, 108, 97, 116] : List UInt8) == wd.toList) = true then 1 else if (([112, 97, 114, 97, 108, 108, 101, 108] : List UInt8) == wd.toList) = true then 2 else if (([115, 113, 117, 97, 114, 101] : List UInt8) == wd.toList) = true then 3 else if (([114, 111, 117, 110, 100] : List UInt8) == wd.toList) = true then 4 else if (([115, 112, 104, 101, 114, 101] : List UInt8) == wd.toList) = true then 5 else if (([112, 114, 111, 102, 105, 108, 101] : List UInt8) == wd.toList) = true then 6 else if (([114, 117, 110, 111, 117, 116] : List UInt8) == wd.toList) = true then 7 else if (([112, 111, 115, 105, 116, 105, 111, 110] : List UInt8) == wd.toList) = true then 8 else 9
theorem fcharV {w0 : World} (wd : ByteArray) : Cf w0 110 #[.string wd] (.int .i64 (chV wd)) := by
  have q := fchar_any w0 wd
  unfold chV
  rcases Bool.eq_false_or_eq_true (([115, 116, 114, 97, 105, 103, 104, 116] : List UInt8) == wd.toList) with h0 | h0
  · simp only [h0, if_true] at q ⊢; exact q
  rcases Bool.eq_false_or_eq_true (([102, 108, 97, 116] : List UInt8) == wd.toList) with h1 | h1
  · simp only [h0, Bool.false_eq_true, if_false, h1, if_true] at q ⊢; exact q
  rcases Bool.eq_false_or_eq_true (([112, 97, 114, 97, 108, 108, 101, 108] : List UInt8) == wd.toList) with h2 | h2
  · simp only [h0, Bool.false_eq_true, if_false, h1, Bool.false_eq_true, if_false, h2, if_true] at q ⊢; exact q
  rcases Bool.eq_false_or_eq_true (([115, 113, 117, 97, 114, 101] : List UInt8) == wd.toList) with h3 | h3
  · simp only [h0, Bool.false_eq_true, if_false, h1, Bool.false_eq_true, if_false, h2, Bool.false_eq_true, if_false, h3, if_true] at q ⊢; exact q
  rcases Bool.eq_false_or_eq_true (([114, 111, 117, 110, 100] : List UInt8) == wd.toList) with h4 | h4
  · simp only [h0, Bool.false_eq_true, if_false, h1, Bool.false_eq_true, if_false, h2, Bool.false_eq_true, if_false, h3, Bool.false_eq_true, if_false, h4, if_true] at q ⊢; exact q
  rcases Bool.eq_false_or_eq_true (([115, 112, 104, 101, 114, 101] : List UInt8) == wd.toList) with h5 | h5
  · simp only [h0, Bool.false_eq_true, if_false, h1, Bool.false_eq_true, if_false, h2, Bool.false_eq_true, if_false, h3, Bool.false_eq_true, if_false, h4, Bool.false_eq_true, if_false, h5, if_true] at q ⊢; exact q
  rcases Bool.eq_false_or_eq_true (([112, 114, 111, 102, 105, 108, 101] : List UInt8) == wd.toList) with h6 | h6
  · simp only [h0, Bool.false_eq_true, if_false, h1, Bool.false_eq_true, if_false, h2, Bool.false_eq_true, if_false, h3, Bool.false_eq_true, if_false, h4, Bool.false_eq_true, if_false, h5, Bool.false_eq_true, if_false, h6, if_true] at q ⊢; exact q
  rcases Bool.eq_false_or_eq_true (([114, 117, 110, 111, 117, 116] : List UInt8) == wd.toList) with h7 | h7
  · simp only [h0, Bool.false_eq_true, if_false, h1, Bool.false_eq_true, if_false, h2, Bool.false_eq_true, if_false, h3, Bool.false_eq_true, if_false, h4, Bool.false_eq_true, if_false, h5, Bool.false_eq_true, if_false, h6, Bool.false_eq_true, if_false, h7, if_true] at q ⊢; exact q
  rcases Bool.eq_false_or_eq_true (([112, 111, 115, 105, 116, 105, 111, 110] : List UInt8) == wd.toList) with h8 | h8
  · simp only [h0, Bool.false_eq_true, if_false, h1, Bool.false_eq_true, if_false, h2, Bool.false_eq_true, if_false, h3, Bool.false_eq_true, if_false, h4, Bool.false_eq_true, if_false, h5, Bool.false_eq_true, if_false, h6, Bool.false_eq_true, if_false, h7, Bool.false_eq_true, if_false, h8, if_true] at q ⊢; exact q
  simp only [h0, h1, h2, h3, h4, h5, h6, h7, h8, Bool.false_eq_true, if_false] at q ⊢
  exact q
/-- a word without a mark behind it, and whether it has it -/
def cutV (s p : ByteArray) : ByteArray := ⟨(Lib.trimSuffix s.data.toList p.data.toList).toArray⟩
def sufB (s p : ByteArray) : Bool := Lib.hasSuffix s.data.toList p.data.toList
theorem fCut (s p : ByteArray) (h : s.size ≤ 1000000) : Ca 133 #[.string s, .string p] (.tuple #[.string (cutV s p), .bool (sufB s p)]) := Lib.hid fun w =>
  (Tryz.strings_CutSuffix s p w (by omega)).mono fun r W' h => ⟨h.1, by rw [h.2]; exact Kb.refl _⟩
theorem sufB_nil (s : ByteArray) : sufB s ⟨#[]⟩ = true := by simp [sufB, Lib.hasSuffix]
set_option maxRecDepth 100000 in
set_option maxHeartbeats 4000000 in
theorem fsplit_1 (w0 : World) (wd : ByteArray)     (hs : wd.size ≤ 1000000)  (h1 : (sufB wd ⟨#[40, 77, 41]⟩) = true) (w : World) (gl : Gf w0 w)  : Calls Tryz.prog 111 #[.string wd] w fun r W' => r = .returned (.tuple #[.string (cutV wd ⟨#[40, 77, 41]⟩), .int .i64 1]) ∧ Kb w W' := by
  have gta := gl.ta
  have gtb := gl.tb
  have gtc := gl.tc
  have kx := Kb.refl w
  have gl0 := Lib.hid gl
  have gta0 := Lib.hid gta
  have gtb0 := Lib.hid gtb
  have gtc0 := Lib.hid gtc
  have ix0 := idxM0
  have ix1 := idxM1
  have ix2 := idxM2
  have hz0 : sufB wd ⟨#[]⟩ = true := sufB_nil wd
  have hz1 : (([40, 77, 41] : List UInt8) == ([] : List UInt8)) = false := by decide
  have hz3 : (([] : List UInt8) == ([] : List UInt8)) = true := beq_self_eq_true _
  have hz2 : (([40, 76, 41] : List UInt8) == ([] : List UInt8)) = false := by decide
  go_enter Tryz.func111, Tryz.ntmps111
  go_wp2_with (first | (refine wpList_load_mid rfl 109 _ rfl 0 0 rfl GtcL _ gtc.range Tryz.underlying109 rfl (by kernel_rfl) ?_) | fail)
  generalize Value.agg GtcL.toArray = AV at *
  refine wp_loop_rounds 2 ?_
  rw [rounds_succ]
  go_wp2_with fail
  (with_reducible refine ((Ca.o (fCut wd ⟨#[]⟩ hs) _)).mono ?_)
  rintro r w1 ⟨rfl, k1⟩
  replace gl := gl.kb k1
  replace gta := gta.kb k1
  replace gtb := gtb.kb k1
  replace gtc := gtc.kb k1
  replace kx := kx.trans k1
  have s1 := k1.size
  skip
  clear k1
  go_wp2_with fail
  rw [rounds_succ]
  go_wp2_with fail
  (with_reducible refine ((Ca.o (fCut wd ⟨#[40, 77, 41]⟩ hs) _)).mono ?_)
  rintro r w2 ⟨rfl, k2⟩
  replace gl := gl.kb k2
  replace gta := gta.kb k2
  replace gtb := gtb.kb k2
  replace gtc := gtc.kb k2
  replace kx := kx.trans k2
  have s2 := k2.size
  skip
  clear k2
  go_wp2
  go_ret2
  exact ⟨rfl, kx⟩
set_option maxRecDepth 100000 in
set_option maxHeartbeats 4000000 in
theorem fsplit_2 (w0 : World) (wd : ByteArray)     (hs : wd.size ≤ 1000000)  (h1 : (sufB wd ⟨#[40, 77, 41]⟩) = false) (h2 : (sufB wd ⟨#[40, 76, 41]⟩) = true) (w : World) (gl : Gf w0 w)  : Calls Tryz.prog 111 #[.string wd] w fun r W' => r = .returned (.tuple #[.string (cutV wd ⟨#[40, 76, 41]⟩), .int .i64 2]) ∧ Kb w W' := by
  have gta := gl.ta
  have gtb := gl.tb
  have gtc := gl.tc
  have kx := Kb.refl w
  have gl0 := Lib.hid gl
  have gta0 := Lib.hid gta
  have gtb0 := Lib.hid gtb
  have gtc0 := Lib.hid gtc
  have ix0 := idxM0
  have ix1 := idxM1
  have ix2 := idxM2
  have hz0 : sufB wd ⟨#[]⟩ = true := sufB_nil wd
  have hz1 : (([40, 77, 41] : List UInt8) == ([] : List UInt8)) = false := by decide
  have hz3 : (([] : List UInt8) == ([] : List UInt8)) = true := beq_self_eq_true _
  have hz2 : (([40, 76, 41] : List UInt8) == ([] : List UInt8)) = false := by decide
  go_enter Tryz.func111, Tryz.ntmps111
  go_wp2_with (first | (refine wpList_load_mid rfl 109 _ rfl 0 0 rfl GtcL _ gtc.range Tryz.underlying109 rfl (by kernel_rfl) ?_) | fail)
  generalize Value.agg GtcL.toArray = AV at *
  refine wp_loop_rounds 3 ?_
  rw [rounds_succ]
  go_wp2_with fail
  (with_reducible refine ((Ca.o (fCut wd ⟨#[]⟩ hs) _)).mono ?_)
  rintro r w1 ⟨rfl, k1⟩
  replace gl := gl.kb k1
  replace gta := gta.kb k1
  replace gtb := gtb.kb k1
  replace gtc := gtc.kb k1
  replace kx := kx.trans k1
  have s1 := k1.size
  skip
  clear k1
  go_wp2_with fail
  rw [rounds_succ]
  go_wp2_with fail
  (with_reducible refine ((Ca.o (fCut wd ⟨#[40, 77, 41]⟩ hs) _)).mono ?_)
  rintro r w2 ⟨rfl, k2⟩
  replace gl := gl.kb k2
  replace gta := gta.kb k2
  replace gtb := gtb.kb k2
  replace gtc := gtc.kb k2
  replace kx := kx.trans k2
  have s2 := k2.size
  skip
  clear k2
  go_wp2_with fail
  rw [rounds_succ]
  go_wp2_with fail
  (with_reducible refine ((Ca.o (fCut wd ⟨#[40, 76, 41]⟩ hs) _)).mono ?_)
  rintro r w3 ⟨rfl, k3⟩
  replace gl := gl.kb k3
  replace gta := gta.kb k3
  replace gtb := gtb.kb k3
  replace gtc := gtc.kb k3
  replace kx := kx.trans k3
  have s3 := k3.size
  skip
  clear k3
  go_wp2
  go_ret2
  exact ⟨rfl, kx⟩
set_option maxRecDepth 100000 in
set_option maxHeartbeats 4000000 in
theorem fsplit_3 (w0 : World) (wd : ByteArray)     (hs : wd.size ≤ 1000000)  (h1 : (sufB wd ⟨#[40, 77, 41]⟩) = false) (h2 : (sufB wd ⟨#[40, 76, 41]⟩) = false) (w : World) (gl : Gf w0 w)  : Calls Tryz.prog 111 #[.string wd] w fun r W' => r = .returned (.tuple #[.string wd, .int .i64 0]) ∧ Kb w W' := by
  have gta := gl.ta
  have gtb := gl.tb
  have gtc := gl.tc
  have kx := Kb.refl w
  have gl0 := Lib.hid gl
  have gta0 := Lib.hid gta
  have gtb0 := Lib.hid gtb
  have gtc0 := Lib.hid gtc
  have ix0 := idxM0
  have ix1 := idxM1
  have ix2 := idxM2
  have hz0 : sufB wd ⟨#[]⟩ = true := sufB_nil wd
  have hz1 : (([40, 77, 41] : List UInt8) == ([] : List UInt8)) = false := by decide
  have hz3 : (([] : List UInt8) == ([] : List UInt8)) = true := beq_self_eq_true _
  have hz2 : (([40, 76, 41] : List UInt8) == ([] : List UInt8)) = false := by decide
  go_enter Tryz.func111, Tryz.ntmps111
  go_wp2_with (first | (refine wpList_load_mid rfl 109 _ rfl 0 0 rfl GtcL _ gtc.range Tryz.underlying109 rfl (by kernel_rfl) ?_) | fail)
  generalize Value.agg GtcL.toArray = AV at *
  refine wp_loop_rounds 4 ?_
  rw [rounds_succ]
  go_wp2_with fail
  (with_reducible refine ((Ca.o (fCut wd ⟨#[]⟩ hs) _)).mono ?_)
  rintro r w1 ⟨rfl, k1⟩
  replace gl := gl.kb k1
  replace gta := gta.kb k1
  replace gtb := gtb.kb k1
  replace gtc := gtc.kb k1
  replace kx := kx.trans k1
  have s1 := k1.size
  skip
  clear k1
  go_wp2_with fail
  rw [rounds_succ]
  go_wp2_with fail
  (with_reducible refine ((Ca.o (fCut wd ⟨#[40, 77, 41]⟩ hs) _)).mono ?_)
  rintro r w2 ⟨rfl, k2⟩
  replace gl := gl.kb k2
  replace gta := gta.kb k2
  replace gtb := gtb.kb k2
  replace gtc := gtc.kb k2
  replace kx := kx.trans k2
  have s2 := k2.size
  skip
  clear k2
  go_wp2_with fail
  rw [rounds_succ]
  go_wp2_with fail
  (with_reducible refine ((Ca.o (fCut wd ⟨#[40, 76, 41]⟩ hs) _)).mono ?_)
  rintro r w3 ⟨rfl, k3⟩
  replace gl := gl.kb k3
  replace gta := gta.kb k3
  replace gtb := gtb.kb k3
  replace gtc := gtc.kb k3
  replace kx := kx.trans k3
  have s3 := k3.size
  skip
  clear k3
  go_wp2_with fail
  rw [rounds_succ]
  go_wp2
  go_ret2
  exact ⟨rfl, kx⟩
set_option maxRecDepth 100000 in
theorem fsplit_any (w0 : World) (wd : ByteArray)   (hs : wd.size ≤ 1000000)  : Cf w0 111 #[.string wd] (if (sufB wd ⟨#[40, 77, 41]⟩) = true then (.tuple #[.string (cutV wd ⟨#[40, 77, 41]⟩), .int .i64 1]) else (if (sufB wd ⟨#[40, 76, 41]⟩) = true then (.tuple #[.string (cutV wd ⟨#[40, 76, 41]⟩), .int .i64 2]) else (.tuple #[.string wd, .int .i64 0]))) := Lib.hid fun w gl => by
  rcases Bool.eq_false_or_eq_true (sufB wd ⟨#[40, 77, 41]⟩) with h1 | h1
  · rw [if_pos h1]
    exact fsplit_1 w0 wd hs h1 w gl
  · rw [if_neg (by rw [h1]; decide)]
    rcases Bool.eq_false_or_eq_true (sufB wd ⟨#[40, 76, 41]⟩) with h2 | h2
    · rw [if_pos h2]
      exact fsplit_2 w0 wd hs h1 h2 w gl
    · rw [if_neg (by rw [h2]; decide)]
      exact fsplit_3 w0 wd hs h1 h2 w gl
/-- what stands before a mark, and the condition of the mark -/
def spV (wd : ByteArray) : ByteArray × Int := if sufB wd ⟨#[40, 77, 41]⟩ = true then (cutV wd ⟨#[40, 77, 41]⟩, 1) else if sufB wd ⟨#[40, 76, 41]⟩ = true then (cutV wd ⟨#[40, 76, 41]⟩, 2) else (wd, 0)
end Go.Proofs.YtlimjohnimgnhaaGreatDoor
