/- The law DimensionPaths returns true. -/
import Derived.Test.YtendjeefggigbaaOl2
import Derived.Test.YtendjeefggigbaaOp5
namespace Go.Proofs.Ytendjeefggigbaa
open Go.RowKit

set_option maxRecDepth 100000 in
set_option maxHeartbeats 4000000 in
theorem paths_few (sp : Option Addr) (N cap : Nat) (w : World) (qf : Hid (∀ V : World, Kb w V → Calls Try.prog 28 #[.slice sp N cap] V fun r W' => r = .returned (.bool false) ∧ Kb V W')) (qa : Ca 11 #[] (.bool true)) : Calls Try.prog 7 #[.slice sp N cap] w fun r W' => r = .returned (.bool true) ∧ Kb w W' := by
  have kx := Kb.refl w
  unfold Ca at *
  go_enter Try.func7, Try.ntmps7
  go_wp2_with fail
  (with_reducible refine (qf.out _ kx).mono ?_)
  rintro r w1 ⟨rfl, k1⟩
  replace kx := kx.trans k1
  clear k1
  go_wp2_with fail
  (with_reducible refine (qa.out _).mono ?_)
  rintro r w2 ⟨rfl, k2⟩
  replace kx := kx.trans k2
  clear k2
  go_wp2
  go_ret
  exact ⟨rfl, kx⟩
set_option maxRecDepth 100000 in
set_option maxHeartbeats 4000000 in
theorem paths_core (sp : Option Addr) (N cap : Nat) (w : World) (x0 x1 : ByteArray) (x2 x3 x4 e : Int) (qf : Hid (∀ V : World, Kb w V → Calls Try.prog 28 #[.slice sp N cap] V fun r W' => r = .returned (.bool true) ∧ Kb V W')) (qa : Ca 11 #[] (.bool true)) (q1 : Hid (∀ V : World, Kb w V → Calls Try.prog 35 #[.slice sp N cap] V fun r W' => r = .returned (.tuple #[.agg #[.string x0, .string x1, .int .i64 x2, .int .i64 x3, .int .i64 x4], .int .i64 e]) ∧ Kb V W')) (q2 : Hid (∀ V : World, Kb w V → Calls Try.prog 36 #[.slice sp N cap] V fun r W' => r = .returned (.tuple #[.agg #[.string x0, .string x1, .int .i64 x2, .int .i64 x3, .int .i64 x4], .int .i64 e]) ∧ Kb V W')) : Calls Try.prog 7 #[.slice sp N cap] w fun r W' => r = .returned (.bool true) ∧ Kb w W' := by
  have kx := Kb.refl w
  unfold Ca at *
  go_enter Try.func7, Try.ntmps7
  go_wp2_with fail
  (with_reducible refine (qf.out _ kx).mono ?_)
  rintro r w1 ⟨rfl, k1⟩
  replace kx := kx.trans k1
  clear k1
  go_wp2_with fail
  (with_reducible refine (q1.out _ kx).mono ?_)
  rintro r w2 ⟨rfl, k2⟩
  replace kx := kx.trans k2
  clear k2
  have p3 := Is.made w2 #[.string x0, .string x1, .int .i64 x2, .int .i64 x3, .int .i64 x4] 49
  replace kx := kx.alloc (.cells #[.string x0, .string x1, .int .i64 x2, .int .i64 x3, .int .i64 x4] 49 (0, 0))
  have p3_0 := p3.c (i := 0) rfl
  have p3_1 := p3.c (i := 1) rfl
  have p3_2 := p3.c (i := 2) rfl
  have p3_3 := p3.c (i := 3) rfl
  have p3_4 := p3.c (i := 4) rfl
  go_wp2_with fail
  (with_reducible refine (q2.out _ kx).mono ?_)
  rintro r w3 ⟨rfl, k3⟩
  clear p3_0 p3_1 p3_2 p3_3 p3_4
  replace p3 := p3.kb k3
  replace kx := kx.trans k3
  clear k3
  replace p3 := p3.alloc (.cells #[.string x0, .string x1, .int .i64 x2, .int .i64 x3, .int .i64 x4] 49 (0, 0))
  have p5 := Is.made w3 #[.string x0, .string x1, .int .i64 x2, .int .i64 x3, .int .i64 x4] 49
  replace kx := kx.alloc (.cells #[.string x0, .string x1, .int .i64 x2, .int .i64 x3, .int .i64 x4] 49 (0, 0))
  have p3_0 := p3.c (i := 0) rfl
  have p3_1 := p3.c (i := 1) rfl
  have p3_2 := p3.c (i := 2) rfl
  have p3_3 := p3.c (i := 3) rfl
  have p3_4 := p3.c (i := 4) rfl
  have p5_0 := p5.c (i := 0) rfl
  have p5_1 := p5.c (i := 1) rfl
  have p5_2 := p5.c (i := 2) rfl
  have p5_3 := p5.c (i := 3) rfl
  have p5_4 := p5.c (i := 4) rfl
  go_wp2_with fail
  (with_reducible refine (qa.out _).mono ?_)
  rintro r w4 ⟨rfl, k4⟩
  clear p3_0 p3_1 p3_2 p3_3 p3_4 p5_0 p5_1 p5_2 p5_3 p5_4
  replace p3 := p3.kb k4
  replace p5 := p5.kb k4
  replace kx := kx.trans k4
  clear k4
  have p3_0 := p3.c (i := 0) rfl
  have p3_1 := p3.c (i := 1) rfl
  have p3_2 := p3.c (i := 2) rfl
  have p3_3 := p3.c (i := 3) rfl
  have p3_4 := p3.c (i := 4) rfl
  have p5_0 := p5.c (i := 0) rfl
  have p5_1 := p5.c (i := 1) rfl
  have p5_2 := p5.c (i := 2) rfl
  have p5_3 := p5.c (i := 3) rfl
  have p5_4 := p5.c (i := 4) rfl
  go_wp2
  go_ret
  exact ⟨rfl, kx⟩
theorem fewB_nz {ds : List DimT} (h : fewB ds = true) : ds.length ≤ 1000 ∧ ∀ d ∈ ds, Nz d := by
  unfold fewB at h
  rw [Bool.and_eq_true] at h
  refine ⟨?_, fun d hd => ?_⟩
  · have := h.1
    unfold fewN at this
    simp at this
    omega
  · have := List.all_eq_true.1 h.2 d hd
    unfold fewD at this
    simp at this
    exact ⟨by omega, by omega⟩
theorem paths_true (ds : List DimT) (sp : Option Addr) (cap : Nat) (w : World) (hs : Sl [] 5 w (.slice sp ds.length cap) (ds.map encDim)) (hm : ds.length ≤ 9223372036854775807) : Lw 7 #[.slice sp ds.length cap] w := by
  rcases Bool.eq_false_or_eq_true (fewB ds) with hb | hb
  · obtain ⟨h1, h2⟩ := fewB_nz hb
    have q1 : Hid (∀ V : World, Kb w V → Calls Try.prog 35 #[.slice sp ds.length cap] V fun r W' => r = .returned (.tuple (encS (path ds))) ∧ Kb V W') := fun V k => dPath ds _ V (hs.kb k) h1 h2
    have q2 : Hid (∀ V : World, Kb w V → Calls Try.prog 36 #[.slice sp ds.length cap] V fun r W' => r = .returned (.tuple (encS (path ds))) ∧ Kb V W') := fun V k => rPath ds _ V (hs.kb k) h1 h2
    have qf : Hid (∀ V : World, Kb w V → Calls Try.prog 28 #[.slice sp ds.length cap] V fun r W' => r = .returned (.bool true) ∧ Kb V W') := fun V k => by
      have := rFew ds _ V (hs.kb k) hm
      rwa [hb] at this
    generalize path ds = s at *
    obtain ⟨⟨x0, x1, x2, x3, x4⟩, e⟩ := s
    exact paths_core sp ds.length cap w x0 x1 x2 x3 x4 e qf dawake q1 q2
  · refine paths_few sp ds.length cap w (fun V k => ?_) dawake
    have := rFew ds _ V (hs.kb k) hm
    rwa [hb] at this
end Go.Proofs.Ytendjeefggigbaa
