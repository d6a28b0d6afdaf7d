/- Features: equal frames. -/
import Derived.Test.YtgclljgdoonnmaaDoorQj1
namespace Go.Proofs.YtgclljgdoonnmaaDoor
open Go.RowKit

set_option maxRecDepth 100000 in
set_option maxHeartbeats 2000000 in
theorem fSameG_1 (kf : Int) (dg : Bool) (tt : Int) (mm : Int) (p : Option Addr) (l : Nat) (c : Nat) (kf2 : Int) (dg2 : Bool) (tt2 : Int) (mm2 : Int) (p2 : Option Addr) (l2 : Nat) (c2 : Nat) (ds : List DatT) (es : List DatT) (hbd : l ≤ 1000000)    (q1 : Ca 85 #[.agg #[.int .i64 kf, .bool dg, .int .i64 tt, .int .i64 mm, .slice p l c]] (.tuple #[.agg #[.int .i64 kf, .bool dg, .int .i64 tt, .int .i64 mm], .slice p l c])) (q2 : Ca 85 #[.agg #[.int .i64 kf2, .bool dg2, .int .i64 tt2, .int .i64 mm2, .slice p2 l2 c2]] (.tuple #[.agg #[.int .i64 kf2, .bool dg2, .int .i64 tt2, .int .i64 mm2], .slice p2 l2 c2]))  (h1 : (kf == kf2) = true) (h2 : (dg == dg2) = true) (h3 : (tt == tt2) = true) (h4 : (mm == mm2) = true) (w : World) (da : DatS w (.slice p l c) ds) (db : DatS w (.slice p2 l2 c2) es)  : Calls Tryd.prog 84 #[.agg #[.int .i64 kf, .bool dg, .int .i64 tt, .int .i64 mm, .slice p l c], .agg #[.int .i64 kf2, .bool dg2, .int .i64 tt2, .int .i64 mm2, .slice p2 l2 c2], .func (.func 85) #[] #[], .func (.func 86) #[] #[]] w fun r W' => r = .returned (.bool (frB ⟨kf, dg, tt, mm, ds⟩ ⟨kf2, dg2, tt2, mm2, es⟩)) ∧ Kb w W' := by
  have kx := Kb.refl w
  unfold Ca at q1 q2
  have en1 := (enters_of Tryd.func85 (by kernel_rfl) rfl : ∀ args W, (callFunc 85 args).run Tryd.prog W = .ok (.enter 85 args) W)
  have f1 := ((Is.made w #[.int .i64 kf, .bool dg, .int .i64 tt, .int .i64 mm, .slice p l c] 61).alloc (.cells #[.int .i64 kf2, .bool dg2, .int .i64 tt2, .int .i64 mm2, .slice p2 l2 c2] 61 (0, 0))).c (i := 0) rfl
  have f2 := ((Is.made w #[.int .i64 kf, .bool dg, .int .i64 tt, .int .i64 mm, .slice p l c] 61).alloc (.cells #[.int .i64 kf2, .bool dg2, .int .i64 tt2, .int .i64 mm2, .slice p2 l2 c2] 61 (0, 0))).c (i := 1) rfl
  have f3 := ((Is.made w #[.int .i64 kf, .bool dg, .int .i64 tt, .int .i64 mm, .slice p l c] 61).alloc (.cells #[.int .i64 kf2, .bool dg2, .int .i64 tt2, .int .i64 mm2, .slice p2 l2 c2] 61 (0, 0))).c (i := 2) rfl
  have f4 := ((Is.made w #[.int .i64 kf, .bool dg, .int .i64 tt, .int .i64 mm, .slice p l c] 61).alloc (.cells #[.int .i64 kf2, .bool dg2, .int .i64 tt2, .int .i64 mm2, .slice p2 l2 c2] 61 (0, 0))).c (i := 3) rfl
  have f5 := ((Is.made w #[.int .i64 kf, .bool dg, .int .i64 tt, .int .i64 mm, .slice p l c] 61).alloc (.cells #[.int .i64 kf2, .bool dg2, .int .i64 tt2, .int .i64 mm2, .slice p2 l2 c2] 61 (0, 0))).c (i := 4) rfl
  go_enter Tryd.func84, Tryd.ntmps84
  go_wp2_with fail
  clear f1 f2 f3 f4 f5
  replace da := ((da.alloc (.cells #[.int .i64 kf, .bool dg, .int .i64 tt, .int .i64 mm, .slice p l c] 61 (0, 0))).alloc (.cells #[.int .i64 kf2, .bool dg2, .int .i64 tt2, .int .i64 mm2, .slice p2 l2 c2] 61 (0, 0)))
  replace db := ((db.alloc (.cells #[.int .i64 kf, .bool dg, .int .i64 tt, .int .i64 mm, .slice p l c] 61 (0, 0))).alloc (.cells #[.int .i64 kf2, .bool dg2, .int .i64 tt2, .int .i64 mm2, .slice p2 l2 c2] 61 (0, 0)))
  have b1 := Is.made w #[.int .i64 kf, .bool dg, .int .i64 tt, .int .i64 mm, .slice p l c] 61
  replace b1 := (b1.alloc (.cells #[.int .i64 kf2, .bool dg2, .int .i64 tt2, .int .i64 mm2, .slice p2 l2 c2] 61 (0, 0)))
  have b2 := Is.made (w.alloc (.cells #[.int .i64 kf, .bool dg, .int .i64 tt, .int .i64 mm, .slice p l c] 61 (0, 0))) #[.int .i64 kf2, .bool dg2, .int .i64 tt2, .int .i64 mm2, .slice p2 l2 c2] 61
  simp only [World.size_alloc] at b2
  replace kx := kx.alloc (.cells #[.int .i64 kf, .bool dg, .int .i64 tt, .int .i64 mm, .slice p l c] 61 (0, 0))
  replace kx := kx.alloc (.cells #[.int .i64 kf2, .bool dg2, .int .i64 tt2, .int .i64 mm2, .slice p2 l2 c2] 61 (0, 0))
  (with_reducible refine (((q1).out _)).mono ?_)
  rintro r w1 ⟨rfl, k1⟩
  replace da := da.kb k1
  replace db := db.kb k1
  replace b1 := b1.kb k1
  replace b2 := b2.kb k1
  replace kx := kx.trans k1
  have s1 := k1.size
  simp only [World.size_alloc] at s1
  clear k1
  have en2 := (enters_of Tryd.func85 (by kernel_rfl) rfl : ∀ args W, (callFunc 85 args).run Tryd.prog W = .ok (.enter 85 args) W)
  have f6 := (b2.alloc (.cells #[.int .i64 kf, .bool dg, .int .i64 tt, .int .i64 mm] 119 (0, 0))).c (i := 0) rfl
  have f7 := (b2.alloc (.cells #[.int .i64 kf, .bool dg, .int .i64 tt, .int .i64 mm] 119 (0, 0))).c (i := 1) rfl
  have f8 := (b2.alloc (.cells #[.int .i64 kf, .bool dg, .int .i64 tt, .int .i64 mm] 119 (0, 0))).c (i := 2) rfl
  have f9 := (b2.alloc (.cells #[.int .i64 kf, .bool dg, .int .i64 tt, .int .i64 mm] 119 (0, 0))).c (i := 3) rfl
  have f10 := (b2.alloc (.cells #[.int .i64 kf, .bool dg, .int .i64 tt, .int .i64 mm] 119 (0, 0))).c (i := 4) rfl
  go_wp2_with fail
  clear f6 f7 f8 f9 f10
  replace da := (da.alloc (.cells #[.int .i64 kf, .bool dg, .int .i64 tt, .int .i64 mm] 119 (0, 0)))
  replace db := (db.alloc (.cells #[.int .i64 kf, .bool dg, .int .i64 tt, .int .i64 mm] 119 (0, 0)))
  replace b1 := (b1.alloc (.cells #[.int .i64 kf, .bool dg, .int .i64 tt, .int .i64 mm] 119 (0, 0)))
  replace b2 := (b2.alloc (.cells #[.int .i64 kf, .bool dg, .int .i64 tt, .int .i64 mm] 119 (0, 0)))
  have b3 := Is.made w1 #[.int .i64 kf, .bool dg, .int .i64 tt, .int .i64 mm] 119
  replace kx := kx.alloc (.cells #[.int .i64 kf, .bool dg, .int .i64 tt, .int .i64 mm] 119 (0, 0))
  (with_reducible refine (((q2).out _)).mono ?_)
  rintro r w2 ⟨rfl, k2⟩
  replace da := da.kb k2
  replace db := db.kb k2
  replace b1 := b1.kb k2
  replace b2 := b2.kb k2
  replace b3 := b3.kb k2
  replace kx := kx.trans k2
  have s2 := k2.size
  simp only [World.size_alloc] at s2
  clear k2
  have f11 := (b3.alloc (.cells #[.int .i64 kf2, .bool dg2, .int .i64 tt2, .int .i64 mm2] 119 (0, 0))).c (i := 0) rfl
  have f12 := (b3.alloc (.cells #[.int .i64 kf2, .bool dg2, .int .i64 tt2, .int .i64 mm2] 119 (0, 0))).c (i := 1) rfl
  have f13 := (b3.alloc (.cells #[.int .i64 kf2, .bool dg2, .int .i64 tt2, .int .i64 mm2] 119 (0, 0))).c (i := 2) rfl
  have f14 := (b3.alloc (.cells #[.int .i64 kf2, .bool dg2, .int .i64 tt2, .int .i64 mm2] 119 (0, 0))).c (i := 3) rfl
  have f15 := (Is.made w2 #[.int .i64 kf2, .bool dg2, .int .i64 tt2, .int .i64 mm2] 119).c (i := 0) rfl
  have f16 := (Is.made w2 #[.int .i64 kf2, .bool dg2, .int .i64 tt2, .int .i64 mm2] 119).c (i := 1) rfl
  have f17 := (Is.made w2 #[.int .i64 kf2, .bool dg2, .int .i64 tt2, .int .i64 mm2] 119).c (i := 2) rfl
  have f18 := (Is.made w2 #[.int .i64 kf2, .bool dg2, .int .i64 tt2, .int .i64 mm2] 119).c (i := 3) rfl
  go_wp2_with fail
  clear f11 f12 f13 f14 f15 f16 f17 f18
  replace da := (da.alloc (.cells #[.int .i64 kf2, .bool dg2, .int .i64 tt2, .int .i64 mm2] 119 (0, 0)))
  replace db := (db.alloc (.cells #[.int .i64 kf2, .bool dg2, .int .i64 tt2, .int .i64 mm2] 119 (0, 0)))
  replace b1 := (b1.alloc (.cells #[.int .i64 kf2, .bool dg2, .int .i64 tt2, .int .i64 mm2] 119 (0, 0)))
  replace b2 := (b2.alloc (.cells #[.int .i64 kf2, .bool dg2, .int .i64 tt2, .int .i64 mm2] 119 (0, 0)))
  replace b3 := (b3.alloc (.cells #[.int .i64 kf2, .bool dg2, .int .i64 tt2, .int .i64 mm2] 119 (0, 0)))
  have b4 := Is.made w2 #[.int .i64 kf2, .bool dg2, .int .i64 tt2, .int .i64 mm2] 119
  replace kx := kx.alloc (.cells #[.int .i64 kf2, .bool dg2, .int .i64 tt2, .int .i64 mm2] 119 (0, 0))
  (with_reducible refine (cEqDat _ _ _ _ _ _ ds es _ da db hbd).mono ?_)
  rintro r w3 ⟨rfl, k3⟩
  replace da := da.kb k3
  replace db := db.kb k3
  replace b1 := b1.kb k3
  replace b2 := b2.kb k3
  replace b3 := b3.kb k3
  replace b4 := b4.kb k3
  replace kx := kx.trans k3
  have s3 := k3.size
  simp only [World.size_alloc] at s3
  clear k3
  go_wp2
  go_ret
  exact ⟨show Ending.returned (.bool (eqL datB ds es)) = Ending.returned (.bool (frB ⟨kf, dg, tt, mm, ds⟩ ⟨kf2, dg2, tt2, mm2, es⟩)) by unfold frB; dsimp only; rw [h1, h2, h3, h4]; rfl, kx⟩
set_option maxRecDepth 100000 in
set_option maxHeartbeats 2000000 in
theorem fSameG_2 (kf : Int) (dg : Bool) (tt : Int) (mm : Int) (p : Option Addr) (l : Nat) (c : Nat) (kf2 : Int) (dg2 : Bool) (tt2 : Int) (mm2 : Int) (p2 : Option Addr) (l2 : Nat) (c2 : Nat) (ds : List DatT) (es : List DatT) (hbd : l ≤ 1000000)    (q1 : Ca 85 #[.agg #[.int .i64 kf, .bool dg, .int .i64 tt, .int .i64 mm, .slice p l c]] (.tuple #[.agg #[.int .i64 kf, .bool dg, .int .i64 tt, .int .i64 mm], .slice p l c])) (q2 : Ca 85 #[.agg #[.int .i64 kf2, .bool dg2, .int .i64 tt2, .int .i64 mm2, .slice p2 l2 c2]] (.tuple #[.agg #[.int .i64 kf2, .bool dg2, .int .i64 tt2, .int .i64 mm2], .slice p2 l2 c2]))  (h1 : (kf == kf2) = true) (h2 : (dg == dg2) = true) (h3 : (tt == tt2) = true) (h4 : (mm == mm2) = false) (w : World) (da : DatS w (.slice p l c) ds) (db : DatS w (.slice p2 l2 c2) es)  : Calls Tryd.prog 84 #[.agg #[.int .i64 kf, .bool dg, .int .i64 tt, .int .i64 mm, .slice p l c], .agg #[.int .i64 kf2, .bool dg2, .int .i64 tt2, .int .i64 mm2, .slice p2 l2 c2], .func (.func 85) #[] #[], .func (.func 86) #[] #[]] w fun r W' => r = .returned (.bool (frB ⟨kf, dg, tt, mm, ds⟩ ⟨kf2, dg2, tt2, mm2, es⟩)) ∧ Kb w W' := by
  have kx := Kb.refl w
  unfold Ca at q1 q2
  have en1 := (enters_of Tryd.func85 (by kernel_rfl) rfl : ∀ args W, (callFunc 85 args).run Tryd.prog W = .ok (.enter 85 args) W)
  have f1 := ((Is.made w #[.int .i64 kf, .bool dg, .int .i64 tt, .int .i64 mm, .slice p l c] 61).alloc (.cells #[.int .i64 kf2, .bool dg2, .int .i64 tt2, .int .i64 mm2, .slice p2 l2 c2] 61 (0, 0))).c (i := 0) rfl
  have f2 := ((Is.made w #[.int .i64 kf, .bool dg, .int .i64 tt, .int .i64 mm, .slice p l c] 61).alloc (.cells #[.int .i64 kf2, .bool dg2, .int .i64 tt2, .int .i64 mm2, .slice p2 l2 c2] 61 (0, 0))).c (i := 1) rfl
  have f3 := ((Is.made w #[.int .i64 kf, .bool dg, .int .i64 tt, .int .i64 mm, .slice p l c] 61).alloc (.cells #[.int .i64 kf2, .bool dg2, .int .i64 tt2, .int .i64 mm2, .slice p2 l2 c2] 61 (0, 0))).c (i := 2) rfl
  have f4 := ((Is.made w #[.int .i64 kf, .bool dg, .int .i64 tt, .int .i64 mm, .slice p l c] 61).alloc (.cells #[.int .i64 kf2, .bool dg2, .int .i64 tt2, .int .i64 mm2, .slice p2 l2 c2] 61 (0, 0))).c (i := 3) rfl
  have f5 := ((Is.made w #[.int .i64 kf, .bool dg, .int .i64 tt, .int .i64 mm, .slice p l c] 61).alloc (.cells #[.int .i64 kf2, .bool dg2, .int .i64 tt2, .int .i64 mm2, .slice p2 l2 c2] 61 (0, 0))).c (i := 4) rfl
  go_enter Tryd.func84, Tryd.ntmps84
  go_wp2_with fail
  clear f1 f2 f3 f4 f5
  replace da := ((da.alloc (.cells #[.int .i64 kf, .bool dg, .int .i64 tt, .int .i64 mm, .slice p l c] 61 (0, 0))).alloc (.cells #[.int .i64 kf2, .bool dg2, .int .i64 tt2, .int .i64 mm2, .slice p2 l2 c2] 61 (0, 0)))
  replace db := ((db.alloc (.cells #[.int .i64 kf, .bool dg, .int .i64 tt, .int .i64 mm, .slice p l c] 61 (0, 0))).alloc (.cells #[.int .i64 kf2, .bool dg2, .int .i64 tt2, .int .i64 mm2, .slice p2 l2 c2] 61 (0, 0)))
  have b1 := Is.made w #[.int .i64 kf, .bool dg, .int .i64 tt, .int .i64 mm, .slice p l c] 61
  replace b1 := (b1.alloc (.cells #[.int .i64 kf2, .bool dg2, .int .i64 tt2, .int .i64 mm2, .slice p2 l2 c2] 61 (0, 0)))
  have b2 := Is.made (w.alloc (.cells #[.int .i64 kf, .bool dg, .int .i64 tt, .int .i64 mm, .slice p l c] 61 (0, 0))) #[.int .i64 kf2, .bool dg2, .int .i64 tt2, .int .i64 mm2, .slice p2 l2 c2] 61
  simp only [World.size_alloc] at b2
  replace kx := kx.alloc (.cells #[.int .i64 kf, .bool dg, .int .i64 tt, .int .i64 mm, .slice p l c] 61 (0, 0))
  replace kx := kx.alloc (.cells #[.int .i64 kf2, .bool dg2, .int .i64 tt2, .int .i64 mm2, .slice p2 l2 c2] 61 (0, 0))
  (with_reducible refine (((q1).out _)).mono ?_)
  rintro r w1 ⟨rfl, k1⟩
  replace da := da.kb k1
  replace db := db.kb k1
  replace b1 := b1.kb k1
  replace b2 := b2.kb k1
  replace kx := kx.trans k1
  have s1 := k1.size
  simp only [World.size_alloc] at s1
  clear k1
  have en2 := (enters_of Tryd.func85 (by kernel_rfl) rfl : ∀ args W, (callFunc 85 args).run Tryd.prog W = .ok (.enter 85 args) W)
  have f6 := (b2.alloc (.cells #[.int .i64 kf, .bool dg, .int .i64 tt, .int .i64 mm] 119 (0, 0))).c (i := 0) rfl
  have f7 := (b2.alloc (.cells #[.int .i64 kf, .bool dg, .int .i64 tt, .int .i64 mm] 119 (0, 0))).c (i := 1) rfl
  have f8 := (b2.alloc (.cells #[.int .i64 kf, .bool dg, .int .i64 tt, .int .i64 mm] 119 (0, 0))).c (i := 2) rfl
  have f9 := (b2.alloc (.cells #[.int .i64 kf, .bool dg, .int .i64 tt, .int .i64 mm] 119 (0, 0))).c (i := 3) rfl
  have f10 := (b2.alloc (.cells #[.int .i64 kf, .bool dg, .int .i64 tt, .int .i64 mm] 119 (0, 0))).c (i := 4) rfl
  go_wp2_with fail
  clear f6 f7 f8 f9 f10
  replace da := (da.alloc (.cells #[.int .i64 kf, .bool dg, .int .i64 tt, .int .i64 mm] 119 (0, 0)))
  replace db := (db.alloc (.cells #[.int .i64 kf, .bool dg, .int .i64 tt, .int .i64 mm] 119 (0, 0)))
  replace b1 := (b1.alloc (.cells #[.int .i64 kf, .bool dg, .int .i64 tt, .int .i64 mm] 119 (0, 0)))
  replace b2 := (b2.alloc (.cells #[.int .i64 kf, .bool dg, .int .i64 tt, .int .i64 mm] 119 (0, 0)))
  have b3 := Is.made w1 #[.int .i64 kf, .bool dg, .int .i64 tt, .int .i64 mm] 119
  replace kx := kx.alloc (.cells #[.int .i64 kf, .bool dg, .int .i64 tt, .int .i64 mm] 119 (0, 0))
  (with_reducible refine (((q2).out _)).mono ?_)
  rintro r w2 ⟨rfl, k2⟩
  replace da := da.kb k2
  replace db := db.kb k2
  replace b1 := b1.kb k2
  replace b2 := b2.kb k2
  replace b3 := b3.kb k2
  replace kx := kx.trans k2
  have s2 := k2.size
  simp only [World.size_alloc] at s2
  clear k2
  have f11 := (b3.alloc (.cells #[.int .i64 kf2, .bool dg2, .int .i64 tt2, .int .i64 mm2] 119 (0, 0))).c (i := 0) rfl
  have f12 := (b3.alloc (.cells #[.int .i64 kf2, .bool dg2, .int .i64 tt2, .int .i64 mm2] 119 (0, 0))).c (i := 1) rfl
  have f13 := (b3.alloc (.cells #[.int .i64 kf2, .bool dg2, .int .i64 tt2, .int .i64 mm2] 119 (0, 0))).c (i := 2) rfl
  have f14 := (b3.alloc (.cells #[.int .i64 kf2, .bool dg2, .int .i64 tt2, .int .i64 mm2] 119 (0, 0))).c (i := 3) rfl
  have f15 := (Is.made w2 #[.int .i64 kf2, .bool dg2, .int .i64 tt2, .int .i64 mm2] 119).c (i := 0) rfl
  have f16 := (Is.made w2 #[.int .i64 kf2, .bool dg2, .int .i64 tt2, .int .i64 mm2] 119).c (i := 1) rfl
  have f17 := (Is.made w2 #[.int .i64 kf2, .bool dg2, .int .i64 tt2, .int .i64 mm2] 119).c (i := 2) rfl
  have f18 := (Is.made w2 #[.int .i64 kf2, .bool dg2, .int .i64 tt2, .int .i64 mm2] 119).c (i := 3) rfl
  go_wp2
  go_ret
  clear f11 f12 f13 f14 f15 f16 f17 f18
  replace kx := kx.alloc (.cells #[.int .i64 kf2, .bool dg2, .int .i64 tt2, .int .i64 mm2] 119 (0, 0))
  exact ⟨show Ending.returned (.bool false) = Ending.returned (.bool (frB ⟨kf, dg, tt, mm, ds⟩ ⟨kf2, dg2, tt2, mm2, es⟩)) by unfold frB; dsimp only; rw [h1, h2, h3, h4]; rfl, kx⟩
set_option maxRecDepth 100000 in
set_option maxHeartbeats 2000000 in
theorem fSameG_3 (kf : Int) (dg : Bool) (tt : Int) (mm : Int) (p : Option Addr) (l : Nat) (c : Nat) (kf2 : Int) (dg2 : Bool) (tt2 : Int) (mm2 : Int) (p2 : Option Addr) (l2 : Nat) (c2 : Nat) (ds : List DatT) (es : List DatT) (hbd : l ≤ 1000000)    (q1 : Ca 85 #[.agg #[.int .i64 kf, .bool dg, .int .i64 tt, .int .i64 mm, .slice p l c]] (.tuple #[.agg #[.int .i64 kf, .bool dg, .int .i64 tt, .int .i64 mm], .slice p l c])) (q2 : Ca 85 #[.agg #[.int .i64 kf2, .bool dg2, .int .i64 tt2, .int .i64 mm2, .slice p2 l2 c2]] (.tuple #[.agg #[.int .i64 kf2, .bool dg2, .int .i64 tt2, .int .i64 mm2], .slice p2 l2 c2]))  (h1 : (kf == kf2) = true) (h2 : (dg == dg2) = true) (h3 : (tt == tt2) = false) (w : World) (da : DatS w (.slice p l c) ds) (db : DatS w (.slice p2 l2 c2) es)  : Calls Tryd.prog 84 #[.agg #[.int .i64 kf, .bool dg, .int .i64 tt, .int .i64 mm, .slice p l c], .agg #[.int .i64 kf2, .bool dg2, .int .i64 tt2, .int .i64 mm2, .slice p2 l2 c2], .func (.func 85) #[] #[], .func (.func 86) #[] #[]] w fun r W' => r = .returned (.bool (frB ⟨kf, dg, tt, mm, ds⟩ ⟨kf2, dg2, tt2, mm2, es⟩)) ∧ Kb w W' := by
  have kx := Kb.refl w
  unfold Ca at q1 q2
  have en1 := (enters_of Tryd.func85 (by kernel_rfl) rfl : ∀ args W, (callFunc 85 args).run Tryd.prog W = .ok (.enter 85 args) W)
  have f1 := ((Is.made w #[.int .i64 kf, .bool dg, .int .i64 tt, .int .i64 mm, .slice p l c] 61).alloc (.cells #[.int .i64 kf2, .bool dg2, .int .i64 tt2, .int .i64 mm2, .slice p2 l2 c2] 61 (0, 0))).c (i := 0) rfl
  have f2 := ((Is.made w #[.int .i64 kf, .bool dg, .int .i64 tt, .int .i64 mm, .slice p l c] 61).alloc (.cells #[.int .i64 kf2, .bool dg2, .int .i64 tt2, .int .i64 mm2, .slice p2 l2 c2] 61 (0, 0))).c (i := 1) rfl
  have f3 := ((Is.made w #[.int .i64 kf, .bool dg, .int .i64 tt, .int .i64 mm, .slice p l c] 61).alloc (.cells #[.int .i64 kf2, .bool dg2, .int .i64 tt2, .int .i64 mm2, .slice p2 l2 c2] 61 (0, 0))).c (i := 2) rfl
  have f4 := ((Is.made w #[.int .i64 kf, .bool dg, .int .i64 tt, .int .i64 mm, .slice p l c] 61).alloc (.cells #[.int .i64 kf2, .bool dg2, .int .i64 tt2, .int .i64 mm2, .slice p2 l2 c2] 61 (0, 0))).c (i := 3) rfl
  have f5 := ((Is.made w #[.int .i64 kf, .bool dg, .int .i64 tt, .int .i64 mm, .slice p l c] 61).alloc (.cells #[.int .i64 kf2, .bool dg2, .int .i64 tt2, .int .i64 mm2, .slice p2 l2 c2] 61 (0, 0))).c (i := 4) rfl
  go_enter Tryd.func84, Tryd.ntmps84
  go_wp2_with fail
  clear f1 f2 f3 f4 f5
  replace da := ((da.alloc (.cells #[.int .i64 kf, .bool dg, .int .i64 tt, .int .i64 mm, .slice p l c] 61 (0, 0))).alloc (.cells #[.int .i64 kf2, .bool dg2, .int .i64 tt2, .int .i64 mm2, .slice p2 l2 c2] 61 (0, 0)))
  replace db := ((db.alloc (.cells #[.int .i64 kf, .bool dg, .int .i64 tt, .int .i64 mm, .slice p l c] 61 (0, 0))).alloc (.cells #[.int .i64 kf2, .bool dg2, .int .i64 tt2, .int .i64 mm2, .slice p2 l2 c2] 61 (0, 0)))
  have b1 := Is.made w #[.int .i64 kf, .bool dg, .int .i64 tt, .int .i64 mm, .slice p l c] 61
  replace b1 := (b1.alloc (.cells #[.int .i64 kf2, .bool dg2, .int .i64 tt2, .int .i64 mm2, .slice p2 l2 c2] 61 (0, 0)))
  have b2 := Is.made (w.alloc (.cells #[.int .i64 kf, .bool dg, .int .i64 tt, .int .i64 mm, .slice p l c] 61 (0, 0))) #[.int .i64 kf2, .bool dg2, .int .i64 tt2, .int .i64 mm2, .slice p2 l2 c2] 61
  simp only [World.size_alloc] at b2
  replace kx := kx.alloc (.cells #[.int .i64 kf, .bool dg, .int .i64 tt, .int .i64 mm, .slice p l c] 61 (0, 0))
  replace kx := kx.alloc (.cells #[.int .i64 kf2, .bool dg2, .int .i64 tt2, .int .i64 mm2, .slice p2 l2 c2] 61 (0, 0))
  (with_reducible refine (((q1).out _)).mono ?_)
  rintro r w1 ⟨rfl, k1⟩
  replace da := da.kb k1
  replace db := db.kb k1
  replace b1 := b1.kb k1
  replace b2 := b2.kb k1
  replace kx := kx.trans k1
  have s1 := k1.size
  simp only [World.size_alloc] at s1
  clear k1
  have en2 := (enters_of Tryd.func85 (by kernel_rfl) rfl : ∀ args W, (callFunc 85 args).run Tryd.prog W = .ok (.enter 85 args) W)
  have f6 := (b2.alloc (.cells #[.int .i64 kf, .bool dg, .int .i64 tt, .int .i64 mm] 119 (0, 0))).c (i := 0) rfl
  have f7 := (b2.alloc (.cells #[.int .i64 kf, .bool dg, .int .i64 tt, .int .i64 mm] 119 (0, 0))).c (i := 1) rfl
  have f8 := (b2.alloc (.cells #[.int .i64 kf, .bool dg, .int .i64 tt, .int .i64 mm] 119 (0, 0))).c (i := 2) rfl
  have f9 := (b2.alloc (.cells #[.int .i64 kf, .bool dg, .int .i64 tt, .int .i64 mm] 119 (0, 0))).c (i := 3) rfl
  have f10 := (b2.alloc (.cells #[.int .i64 kf, .bool dg, .int .i64 tt, .int .i64 mm] 119 (0, 0))).c (i := 4) rfl
  go_wp2_with fail
  clear f6 f7 f8 f9 f10
  replace da := (da.alloc (.cells #[.int .i64 kf, .bool dg, .int .i64 tt, .int .i64 mm] 119 (0, 0)))
  replace db := (db.alloc (.cells #[.int .i64 kf, .bool dg, .int .i64 tt, .int .i64 mm] 119 (0, 0)))
  replace b1 := (b1.alloc (.cells #[.int .i64 kf, .bool dg, .int .i64 tt, .int .i64 mm] 119 (0, 0)))
  replace b2 := (b2.alloc (.cells #[.int .i64 kf, .bool dg, .int .i64 tt, .int .i64 mm] 119 (0, 0)))
  have b3 := Is.made w1 #[.int .i64 kf, .bool dg, .int .i64 tt, .int .i64 mm] 119
  replace kx := kx.alloc (.cells #[.int .i64 kf, .bool dg, .int .i64 tt, .int .i64 mm] 119 (0, 0))
  (with_reducible refine (((q2).out _)).mono ?_)
  rintro r w2 ⟨rfl, k2⟩
  replace da := da.kb k2
  replace db := db.kb k2
  replace b1 := b1.kb k2
  replace b2 := b2.kb k2
  replace b3 := b3.kb k2
  replace kx := kx.trans k2
  have s2 := k2.size
  simp only [World.size_alloc] at s2
  clear k2
  have f11 := (b3.alloc (.cells #[.int .i64 kf2, .bool dg2, .int .i64 tt2, .int .i64 mm2] 119 (0, 0))).c (i := 0) rfl
  have f12 := (b3.alloc (.cells #[.int .i64 kf2, .bool dg2, .int .i64 tt2, .int .i64 mm2] 119 (0, 0))).c (i := 1) rfl
  have f13 := (b3.alloc (.cells #[.int .i64 kf2, .bool dg2, .int .i64 tt2, .int .i64 mm2] 119 (0, 0))).c (i := 2) rfl
  have f14 := (b3.alloc (.cells #[.int .i64 kf2, .bool dg2, .int .i64 tt2, .int .i64 mm2] 119 (0, 0))).c (i := 3) rfl
  have f15 := (Is.made w2 #[.int .i64 kf2, .bool dg2, .int .i64 tt2, .int .i64 mm2] 119).c (i := 0) rfl
  have f16 := (Is.made w2 #[.int .i64 kf2, .bool dg2, .int .i64 tt2, .int .i64 mm2] 119).c (i := 1) rfl
  have f17 := (Is.made w2 #[.int .i64 kf2, .bool dg2, .int .i64 tt2, .int .i64 mm2] 119).c (i := 2) rfl
  have f18 := (Is.made w2 #[.int .i64 kf2, .bool dg2, .int .i64 tt2, .int .i64 mm2] 119).c (i := 3) rfl
  go_wp2
  go_ret
  clear f11 f12 f13 f14 f15 f16 f17 f18
  replace kx := kx.alloc (.cells #[.int .i64 kf2, .bool dg2, .int .i64 tt2, .int .i64 mm2] 119 (0, 0))
  exact ⟨show Ending.returned (.bool false) = Ending.returned (.bool (frB ⟨kf, dg, tt, mm, ds⟩ ⟨kf2, dg2, tt2, mm2, es⟩)) by unfold frB; dsimp only; rw [h1, h2, h3]; rfl, kx⟩
set_option maxRecDepth 100000 in
set_option maxHeartbeats 2000000 in
theorem fSameG_4 (kf : Int) (dg : Bool) (tt : Int) (mm : Int) (p : Option Addr) (l : Nat) (c : Nat) (kf2 : Int) (dg2 : Bool) (tt2 : Int) (mm2 : Int) (p2 : Option Addr) (l2 : Nat) (c2 : Nat) (ds : List DatT) (es : List DatT) (hbd : l ≤ 1000000)    (q1 : Ca 85 #[.agg #[.int .i64 kf, .bool dg, .int .i64 tt, .int .i64 mm, .slice p l c]] (.tuple #[.agg #[.int .i64 kf, .bool dg, .int .i64 tt, .int .i64 mm], .slice p l c])) (q2 : Ca 85 #[.agg #[.int .i64 kf2, .bool dg2, .int .i64 tt2, .int .i64 mm2, .slice p2 l2 c2]] (.tuple #[.agg #[.int .i64 kf2, .bool dg2, .int .i64 tt2, .int .i64 mm2], .slice p2 l2 c2]))  (h1 : (kf == kf2) = true) (h2 : (dg == dg2) = false) (w : World) (da : DatS w (.slice p l c) ds) (db : DatS w (.slice p2 l2 c2) es)  : Calls Tryd.prog 84 #[.agg #[.int .i64 kf, .bool dg, .int .i64 tt, .int .i64 mm, .slice p l c], .agg #[.int .i64 kf2, .bool dg2, .int .i64 tt2, .int .i64 mm2, .slice p2 l2 c2], .func (.func 85) #[] #[], .func (.func 86) #[] #[]] w fun r W' => r = .returned (.bool (frB ⟨kf, dg, tt, mm, ds⟩ ⟨kf2, dg2, tt2, mm2, es⟩)) ∧ Kb w W' := by
  have kx := Kb.refl w
  unfold Ca at q1 q2
  have en1 := (enters_of Tryd.func85 (by kernel_rfl) rfl : ∀ args W, (callFunc 85 args).run Tryd.prog W = .ok (.enter 85 args) W)
  have f1 := ((Is.made w #[.int .i64 kf, .bool dg, .int .i64 tt, .int .i64 mm, .slice p l c] 61).alloc (.cells #[.int .i64 kf2, .bool dg2, .int .i64 tt2, .int .i64 mm2, .slice p2 l2 c2] 61 (0, 0))).c (i := 0) rfl
  have f2 := ((Is.made w #[.int .i64 kf, .bool dg, .int .i64 tt, .int .i64 mm, .slice p l c] 61).alloc (.cells #[.int .i64 kf2, .bool dg2, .int .i64 tt2, .int .i64 mm2, .slice p2 l2 c2] 61 (0, 0))).c (i := 1) rfl
  have f3 := ((Is.made w #[.int .i64 kf, .bool dg, .int .i64 tt, .int .i64 mm, .slice p l c] 61).alloc (.cells #[.int .i64 kf2, .bool dg2, .int .i64 tt2, .int .i64 mm2, .slice p2 l2 c2] 61 (0, 0))).c (i := 2) rfl
  have f4 := ((Is.made w #[.int .i64 kf, .bool dg, .int .i64 tt, .int .i64 mm, .slice p l c] 61).alloc (.cells #[.int .i64 kf2, .bool dg2, .int .i64 tt2, .int .i64 mm2, .slice p2 l2 c2] 61 (0, 0))).c (i := 3) rfl
  have f5 := ((Is.made w #[.int .i64 kf, .bool dg, .int .i64 tt, .int .i64 mm, .slice p l c] 61).alloc (.cells #[.int .i64 kf2, .bool dg2, .int .i64 tt2, .int .i64 mm2, .slice p2 l2 c2] 61 (0, 0))).c (i := 4) rfl
  go_enter Tryd.func84, Tryd.ntmps84
  go_wp2_with fail
  clear f1 f2 f3 f4 f5
  replace da := ((da.alloc (.cells #[.int .i64 kf, .bool dg, .int .i64 tt, .int .i64 mm, .slice p l c] 61 (0, 0))).alloc (.cells #[.int .i64 kf2, .bool dg2, .int .i64 tt2, .int .i64 mm2, .slice p2 l2 c2] 61 (0, 0)))
  replace db := ((db.alloc (.cells #[.int .i64 kf, .bool dg, .int .i64 tt, .int .i64 mm, .slice p l c] 61 (0, 0))).alloc (.cells #[.int .i64 kf2, .bool dg2, .int .i64 tt2, .int .i64 mm2, .slice p2 l2 c2] 61 (0, 0)))
  have b1 := Is.made w #[.int .i64 kf, .bool dg, .int .i64 tt, .int .i64 mm, .slice p l c] 61
  replace b1 := (b1.alloc (.cells #[.int .i64 kf2, .bool dg2, .int .i64 tt2, .int .i64 mm2, .slice p2 l2 c2] 61 (0, 0)))
  have b2 := Is.made (w.alloc (.cells #[.int .i64 kf, .bool dg, .int .i64 tt, .int .i64 mm, .slice p l c] 61 (0, 0))) #[.int .i64 kf2, .bool dg2, .int .i64 tt2, .int .i64 mm2, .slice p2 l2 c2] 61
  simp only [World.size_alloc] at b2
  replace kx := kx.alloc (.cells #[.int .i64 kf, .bool dg, .int .i64 tt, .int .i64 mm, .slice p l c] 61 (0, 0))
  replace kx := kx.alloc (.cells #[.int .i64 kf2, .bool dg2, .int .i64 tt2, .int .i64 mm2, .slice p2 l2 c2] 61 (0, 0))
  (with_reducible refine (((q1).out _)).mono ?_)
  rintro r w1 ⟨rfl, k1⟩
  replace da := da.kb k1
  replace db := db.kb k1
  replace b1 := b1.kb k1
  replace b2 := b2.kb k1
  replace kx := kx.trans k1
  have s1 := k1.size
  simp only [World.size_alloc] at s1
  clear k1
  have en2 := (enters_of Tryd.func85 (by kernel_rfl) rfl : ∀ args W, (callFunc 85 args).run Tryd.prog W = .ok (.enter 85 args) W)
  have f6 := (b2.alloc (.cells #[.int .i64 kf, .bool dg, .int .i64 tt, .int .i64 mm] 119 (0, 0))).c (i := 0) rfl
  have f7 := (b2.alloc (.cells #[.int .i64 kf, .bool dg, .int .i64 tt, .int .i64 mm] 119 (0, 0))).c (i := 1) rfl
  have f8 := (b2.alloc (.cells #[.int .i64 kf, .bool dg, .int .i64 tt, .int .i64 mm] 119 (0, 0))).c (i := 2) rfl
  have f9 := (b2.alloc (.cells #[.int .i64 kf, .bool dg, .int .i64 tt, .int .i64 mm] 119 (0, 0))).c (i := 3) rfl
  have f10 := (b2.alloc (.cells #[.int .i64 kf, .bool dg, .int .i64 tt, .int .i64 mm] 119 (0, 0))).c (i := 4) rfl
  go_wp2_with fail
  clear f6 f7 f8 f9 f10
  replace da := (da.alloc (.cells #[.int .i64 kf, .bool dg, .int .i64 tt, .int .i64 mm] 119 (0, 0)))
  replace db := (db.alloc (.cells #[.int .i64 kf, .bool dg, .int .i64 tt, .int .i64 mm] 119 (0, 0)))
  replace b1 := (b1.alloc (.cells #[.int .i64 kf, .bool dg, .int .i64 tt, .int .i64 mm] 119 (0, 0)))
  replace b2 := (b2.alloc (.cells #[.int .i64 kf, .bool dg, .int .i64 tt, .int .i64 mm] 119 (0, 0)))
  have b3 := Is.made w1 #[.int .i64 kf, .bool dg, .int .i64 tt, .int .i64 mm] 119
  replace kx := kx.alloc (.cells #[.int .i64 kf, .bool dg, .int .i64 tt, .int .i64 mm] 119 (0, 0))
  (with_reducible refine (((q2).out _)).mono ?_)
  rintro r w2 ⟨rfl, k2⟩
  replace da := da.kb k2
  replace db := db.kb k2
  replace b1 := b1.kb k2
  replace b2 := b2.kb k2
  replace b3 := b3.kb k2
  replace kx := kx.trans k2
  have s2 := k2.size
  simp only [World.size_alloc] at s2
  clear k2
  have f11 := (b3.alloc (.cells #[.int .i64 kf2, .bool dg2, .int .i64 tt2, .int .i64 mm2] 119 (0, 0))).c (i := 0) rfl
  have f12 := (b3.alloc (.cells #[.int .i64 kf2, .bool dg2, .int .i64 tt2, .int .i64 mm2] 119 (0, 0))).c (i := 1) rfl
  have f13 := (b3.alloc (.cells #[.int .i64 kf2, .bool dg2, .int .i64 tt2, .int .i64 mm2] 119 (0, 0))).c (i := 2) rfl
  have f14 := (b3.alloc (.cells #[.int .i64 kf2, .bool dg2, .int .i64 tt2, .int .i64 mm2] 119 (0, 0))).c (i := 3) rfl
  have f15 := (Is.made w2 #[.int .i64 kf2, .bool dg2, .int .i64 tt2, .int .i64 mm2] 119).c (i := 0) rfl
  have f16 := (Is.made w2 #[.int .i64 kf2, .bool dg2, .int .i64 tt2, .int .i64 mm2] 119).c (i := 1) rfl
  have f17 := (Is.made w2 #[.int .i64 kf2, .bool dg2, .int .i64 tt2, .int .i64 mm2] 119).c (i := 2) rfl
  have f18 := (Is.made w2 #[.int .i64 kf2, .bool dg2, .int .i64 tt2, .int .i64 mm2] 119).c (i := 3) rfl
  go_wp2
  go_ret
  clear f11 f12 f13 f14 f15 f16 f17 f18
  replace kx := kx.alloc (.cells #[.int .i64 kf2, .bool dg2, .int .i64 tt2, .int .i64 mm2] 119 (0, 0))
  exact ⟨show Ending.returned (.bool false) = Ending.returned (.bool (frB ⟨kf, dg, tt, mm, ds⟩ ⟨kf2, dg2, tt2, mm2, es⟩)) by unfold frB; dsimp only; rw [h1, h2]; rfl, kx⟩
set_option maxRecDepth 100000 in
set_option maxHeartbeats 2000000 in
theorem fSameG_5 (kf : Int) (dg : Bool) (tt : Int) (mm : Int) (p : Option Addr) (l : Nat) (c : Nat) (kf2 : Int) (dg2 : Bool) (tt2 : Int) (mm2 : Int) (p2 : Option Addr) (l2 : Nat) (c2 : Nat) (ds : List DatT) (es : List DatT) (hbd : l ≤ 1000000)    (q1 : Ca 85 #[.agg #[.int .i64 kf, .bool dg, .int .i64 tt, .int .i64 mm, .slice p l c]] (.tuple #[.agg #[.int .i64 kf, .bool dg, .int .i64 tt, .int .i64 mm], .slice p l c])) (q2 : Ca 85 #[.agg #[.int .i64 kf2, .bool dg2, .int .i64 tt2, .int .i64 mm2, .slice p2 l2 c2]] (.tuple #[.agg #[.int .i64 kf2, .bool dg2, .int .i64 tt2, .int .i64 mm2], .slice p2 l2 c2]))  (h1 : (kf == kf2) = false) (w : World) (da : DatS w (.slice p l c) ds) (db : DatS w (.slice p2 l2 c2) es)  : Calls Tryd.prog 84 #[.agg #[.int .i64 kf, .bool dg, .int .i64 tt, .int .i64 mm, .slice p l c], .agg #[.int .i64 kf2, .bool dg2, .int .i64 tt2, .int .i64 mm2, .slice p2 l2 c2], .func (.func 85) #[] #[], .func (.func 86) #[] #[]] w fun r W' => r = .returned (.bool (frB ⟨kf, dg, tt, mm, ds⟩ ⟨kf2, dg2, tt2, mm2, es⟩)) ∧ Kb w W' := by
  have kx := Kb.refl w
  unfold Ca at q1 q2
  have en1 := (enters_of Tryd.func85 (by kernel_rfl) rfl : ∀ args W, (callFunc 85 args).run Tryd.prog W = .ok (.enter 85 args) W)
  have f1 := ((Is.made w #[.int .i64 kf, .bool dg, .int .i64 tt, .int .i64 mm, .slice p l c] 61).alloc (.cells #[.int .i64 kf2, .bool dg2, .int .i64 tt2, .int .i64 mm2, .slice p2 l2 c2] 61 (0, 0))).c (i := 0) rfl
  have f2 := ((Is.made w #[.int .i64 kf, .bool dg, .int .i64 tt, .int .i64 mm, .slice p l c] 61).alloc (.cells #[.int .i64 kf2, .bool dg2, .int .i64 tt2, .int .i64 mm2, .slice p2 l2 c2] 61 (0, 0))).c (i := 1) rfl
  have f3 := ((Is.made w #[.int .i64 kf, .bool dg, .int .i64 tt, .int .i64 mm, .slice p l c] 61).alloc (.cells #[.int .i64 kf2, .bool dg2, .int .i64 tt2, .int .i64 mm2, .slice p2 l2 c2] 61 (0, 0))).c (i := 2) rfl
  have f4 := ((Is.made w #[.int .i64 kf, .bool dg, .int .i64 tt, .int .i64 mm, .slice p l c] 61).alloc (.cells #[.int .i64 kf2, .bool dg2, .int .i64 tt2, .int .i64 mm2, .slice p2 l2 c2] 61 (0, 0))).c (i := 3) rfl
  have f5 := ((Is.made w #[.int .i64 kf, .bool dg, .int .i64 tt, .int .i64 mm, .slice p l c] 61).alloc (.cells #[.int .i64 kf2, .bool dg2, .int .i64 tt2, .int .i64 mm2, .slice p2 l2 c2] 61 (0, 0))).c (i := 4) rfl
  go_enter Tryd.func84, Tryd.ntmps84
  go_wp2_with fail
  clear f1 f2 f3 f4 f5
  replace da := ((da.alloc (.cells #[.int .i64 kf, .bool dg, .int .i64 tt, .int .i64 mm, .slice p l c] 61 (0, 0))).alloc (.cells #[.int .i64 kf2, .bool dg2, .int .i64 tt2, .int .i64 mm2, .slice p2 l2 c2] 61 (0, 0)))
  replace db := ((db.alloc (.cells #[.int .i64 kf, .bool dg, .int .i64 tt, .int .i64 mm, .slice p l c] 61 (0, 0))).alloc (.cells #[.int .i64 kf2, .bool dg2, .int .i64 tt2, .int .i64 mm2, .slice p2 l2 c2] 61 (0, 0)))
  have b1 := Is.made w #[.int .i64 kf, .bool dg, .int .i64 tt, .int .i64 mm, .slice p l c] 61
  replace b1 := (b1.alloc (.cells #[.int .i64 kf2, .bool dg2, .int .i64 tt2, .int .i64 mm2, .slice p2 l2 c2] 61 (0, 0)))
  have b2 := Is.made (w.alloc (.cells #[.int .i64 kf, .bool dg, .int .i64 tt, .int .i64 mm, .slice p l c] 61 (0, 0))) #[.int .i64 kf2, .bool dg2, .int .i64 tt2, .int .i64 mm2, .slice p2 l2 c2] 61
  simp only [World.size_alloc] at b2
  replace kx := kx.alloc (.cells #[.int .i64 kf, .bool dg, .int .i64 tt, .int .i64 mm, .slice p l c] 61 (0, 0))
  replace kx := kx.alloc (.cells #[.int .i64 kf2, .bool dg2, .int .i64 tt2, .int .i64 mm2, .slice p2 l2 c2] 61 (0, 0))
  (with_reducible refine (((q1).out _)).mono ?_)
  rintro r w1 ⟨rfl, k1⟩
  replace da := da.kb k1
  replace db := db.kb k1
  replace b1 := b1.kb k1
  replace b2 := b2.kb k1
  replace kx := kx.trans k1
  have s1 := k1.size
  simp only [World.size_alloc] at s1
  clear k1
  have en2 := (enters_of Tryd.func85 (by kernel_rfl) rfl : ∀ args W, (callFunc 85 args).run Tryd.prog W = .ok (.enter 85 args) W)
  have f6 := (b2.alloc (.cells #[.int .i64 kf, .bool dg, .int .i64 tt, .int .i64 mm] 119 (0, 0))).c (i := 0) rfl
  have f7 := (b2.alloc (.cells #[.int .i64 kf, .bool dg, .int .i64 tt, .int .i64 mm] 119 (0, 0))).c (i := 1) rfl
  have f8 := (b2.alloc (.cells #[.int .i64 kf, .bool dg, .int .i64 tt, .int .i64 mm] 119 (0, 0))).c (i := 2) rfl
  have f9 := (b2.alloc (.cells #[.int .i64 kf, .bool dg, .int .i64 tt, .int .i64 mm] 119 (0, 0))).c (i := 3) rfl
  have f10 := (b2.alloc (.cells #[.int .i64 kf, .bool dg, .int .i64 tt, .int .i64 mm] 119 (0, 0))).c (i := 4) rfl
  go_wp2_with fail
  clear f6 f7 f8 f9 f10
  replace da := (da.alloc (.cells #[.int .i64 kf, .bool dg, .int .i64 tt, .int .i64 mm] 119 (0, 0)))
  replace db := (db.alloc (.cells #[.int .i64 kf, .bool dg, .int .i64 tt, .int .i64 mm] 119 (0, 0)))
  replace b1 := (b1.alloc (.cells #[.int .i64 kf, .bool dg, .int .i64 tt, .int .i64 mm] 119 (0, 0)))
  replace b2 := (b2.alloc (.cells #[.int .i64 kf, .bool dg, .int .i64 tt, .int .i64 mm] 119 (0, 0)))
  have b3 := Is.made w1 #[.int .i64 kf, .bool dg, .int .i64 tt, .int .i64 mm] 119
  replace kx := kx.alloc (.cells #[.int .i64 kf, .bool dg, .int .i64 tt, .int .i64 mm] 119 (0, 0))
  (with_reducible refine (((q2).out _)).mono ?_)
  rintro r w2 ⟨rfl, k2⟩
  replace da := da.kb k2
  replace db := db.kb k2
  replace b1 := b1.kb k2
  replace b2 := b2.kb k2
  replace b3 := b3.kb k2
  replace kx := kx.trans k2
  have s2 := k2.size
  simp only [World.size_alloc] at s2
  clear k2
  have f11 := (b3.alloc (.cells #[.int .i64 kf2, .bool dg2, .int .i64 tt2, .int .i64 mm2] 119 (0, 0))).c (i := 0) rfl
  have f12 := (b3.alloc (.cells #[.int .i64 kf2, .bool dg2, .int .i64 tt2, .int .i64 mm2] 119 (0, 0))).c (i := 1) rfl
  have f13 := (b3.alloc (.cells #[.int .i64 kf2, .bool dg2, .int .i64 tt2, .int .i64 mm2] 119 (0, 0))).c (i := 2) rfl
  have f14 := (b3.alloc (.cells #[.int .i64 kf2, .bool dg2, .int .i64 tt2, .int .i64 mm2] 119 (0, 0))).c (i := 3) rfl
  have f15 := (Is.made w2 #[.int .i64 kf2, .bool dg2, .int .i64 tt2, .int .i64 mm2] 119).c (i := 0) rfl
  have f16 := (Is.made w2 #[.int .i64 kf2, .bool dg2, .int .i64 tt2, .int .i64 mm2] 119).c (i := 1) rfl
  have f17 := (Is.made w2 #[.int .i64 kf2, .bool dg2, .int .i64 tt2, .int .i64 mm2] 119).c (i := 2) rfl
  have f18 := (Is.made w2 #[.int .i64 kf2, .bool dg2, .int .i64 tt2, .int .i64 mm2] 119).c (i := 3) rfl
  go_wp2
  go_ret
  clear f11 f12 f13 f14 f15 f16 f17 f18
  replace kx := kx.alloc (.cells #[.int .i64 kf2, .bool dg2, .int .i64 tt2, .int .i64 mm2] 119 (0, 0))
  exact ⟨show Ending.returned (.bool false) = Ending.returned (.bool (frB ⟨kf, dg, tt, mm, ds⟩ ⟨kf2, dg2, tt2, mm2, es⟩)) by unfold frB; dsimp only; rw [h1]; rfl, kx⟩
set_option maxRecDepth 100000 in
theorem fSameG (kf : Int) (dg : Bool) (tt : Int) (mm : Int) (p : Option Addr) (l : Nat) (c : Nat) (kf2 : Int) (dg2 : Bool) (tt2 : Int) (mm2 : Int) (p2 : Option Addr) (l2 : Nat) (c2 : Nat) (ds : List DatT) (es : List DatT) (hbd : l ≤ 1000000)  (q1 : Ca 85 #[.agg #[.int .i64 kf, .bool dg, .int .i64 tt, .int .i64 mm, .slice p l c]] (.tuple #[.agg #[.int .i64 kf, .bool dg, .int .i64 tt, .int .i64 mm], .slice p l c])) (q2 : Ca 85 #[.agg #[.int .i64 kf2, .bool dg2, .int .i64 tt2, .int .i64 mm2, .slice p2 l2 c2]] (.tuple #[.agg #[.int .i64 kf2, .bool dg2, .int .i64 tt2, .int .i64 mm2], .slice p2 l2 c2]))  (w : World) (da : DatS w (.slice p l c) ds) (db : DatS w (.slice p2 l2 c2) es) : Calls Tryd.prog 84 #[.agg #[.int .i64 kf, .bool dg, .int .i64 tt, .int .i64 mm, .slice p l c], .agg #[.int .i64 kf2, .bool dg2, .int .i64 tt2, .int .i64 mm2, .slice p2 l2 c2], .func (.func 85) #[] #[], .func (.func 86) #[] #[]] w fun r W' => r = .returned (.bool (frB ⟨kf, dg, tt, mm, ds⟩ ⟨kf2, dg2, tt2, mm2, es⟩)) ∧ Kb w W' := by
  rcases Bool.eq_false_or_eq_true (kf == kf2) with h1 | h1
  · rcases Bool.eq_false_or_eq_true (dg == dg2) with h2 | h2
    · rcases Bool.eq_false_or_eq_true (tt == tt2) with h3 | h3
      · rcases Bool.eq_false_or_eq_true (mm == mm2) with h4 | h4
        · exact fSameG_1 kf dg tt mm p l c kf2 dg2 tt2 mm2 p2 l2 c2 ds es hbd q1 q2 h1 h2 h3 h4 w da db
        · exact fSameG_2 kf dg tt mm p l c kf2 dg2 tt2 mm2 p2 l2 c2 ds es hbd q1 q2 h1 h2 h3 h4 w da db
      · exact fSameG_3 kf dg tt mm p l c kf2 dg2 tt2 mm2 p2 l2 c2 ds es hbd q1 q2 h1 h2 h3 w da db
    · exact fSameG_4 kf dg tt mm p l c kf2 dg2 tt2 mm2 p2 l2 c2 ds es hbd q1 q2 h1 h2 w da db
  · exact fSameG_5 kf dg tt mm p l c kf2 dg2 tt2 mm2 p2 l2 c2 ds es hbd q1 q2 h1 w da db
set_option maxRecDepth 100000 in
set_option maxHeartbeats 1000000 in
theorem fSameFr_1 (kf : Int) (dg : Bool) (tt : Int) (mm : Int) (p : Option Addr) (l : Nat) (c : Nat) (kf2 : Int) (dg2 : Bool) (tt2 : Int) (mm2 : Int) (p2 : Option Addr) (l2 : Nat) (c2 : Nat) (ds : List DatT) (es : List DatT) (hbd : l ≤ 1000000) (w : World) (da : DatS w (.slice p l c) ds) (db : DatS w (.slice p2 l2 c2) es)  : Calls Tryd.prog 67 #[.agg #[.int .i64 kf, .bool dg, .int .i64 tt, .int .i64 mm, .slice p l c], .agg #[.int .i64 kf2, .bool dg2, .int .i64 tt2, .int .i64 mm2, .slice p2 l2 c2]] w fun r W' => r = .returned (.bool (frB ⟨kf, dg, tt, mm, ds⟩ ⟨kf2, dg2, tt2, mm2, es⟩)) ∧ Kb w W' := by
  have kx := Kb.refl w
  have f1 := ((Is.made w #[.int .i64 kf, .bool dg, .int .i64 tt, .int .i64 mm, .slice p l c] 61).alloc (.cells #[.int .i64 kf2, .bool dg2, .int .i64 tt2, .int .i64 mm2, .slice p2 l2 c2] 61 (0, 0))).c (i := 0) rfl
  have f2 := ((Is.made w #[.int .i64 kf, .bool dg, .int .i64 tt, .int .i64 mm, .slice p l c] 61).alloc (.cells #[.int .i64 kf2, .bool dg2, .int .i64 tt2, .int .i64 mm2, .slice p2 l2 c2] 61 (0, 0))).c (i := 1) rfl
  have f3 := ((Is.made w #[.int .i64 kf, .bool dg, .int .i64 tt, .int .i64 mm, .slice p l c] 61).alloc (.cells #[.int .i64 kf2, .bool dg2, .int .i64 tt2, .int .i64 mm2, .slice p2 l2 c2] 61 (0, 0))).c (i := 2) rfl
  have f4 := ((Is.made w #[.int .i64 kf, .bool dg, .int .i64 tt, .int .i64 mm, .slice p l c] 61).alloc (.cells #[.int .i64 kf2, .bool dg2, .int .i64 tt2, .int .i64 mm2, .slice p2 l2 c2] 61 (0, 0))).c (i := 3) rfl
  have f5 := ((Is.made w #[.int .i64 kf, .bool dg, .int .i64 tt, .int .i64 mm, .slice p l c] 61).alloc (.cells #[.int .i64 kf2, .bool dg2, .int .i64 tt2, .int .i64 mm2, .slice p2 l2 c2] 61 (0, 0))).c (i := 4) rfl
  have f6 := (Is.made (w.alloc (.cells #[.int .i64 kf, .bool dg, .int .i64 tt, .int .i64 mm, .slice p l c] 61 (0, 0))) #[.int .i64 kf2, .bool dg2, .int .i64 tt2, .int .i64 mm2, .slice p2 l2 c2] 61).c (i := 0) rfl
  simp only [World.size_alloc] at f6
  have f7 := (Is.made (w.alloc (.cells #[.int .i64 kf, .bool dg, .int .i64 tt, .int .i64 mm, .slice p l c] 61 (0, 0))) #[.int .i64 kf2, .bool dg2, .int .i64 tt2, .int .i64 mm2, .slice p2 l2 c2] 61).c (i := 1) rfl
  simp only [World.size_alloc] at f7
  have f8 := (Is.made (w.alloc (.cells #[.int .i64 kf, .bool dg, .int .i64 tt, .int .i64 mm, .slice p l c] 61 (0, 0))) #[.int .i64 kf2, .bool dg2, .int .i64 tt2, .int .i64 mm2, .slice p2 l2 c2] 61).c (i := 2) rfl
  simp only [World.size_alloc] at f8
  have f9 := (Is.made (w.alloc (.cells #[.int .i64 kf, .bool dg, .int .i64 tt, .int .i64 mm, .slice p l c] 61 (0, 0))) #[.int .i64 kf2, .bool dg2, .int .i64 tt2, .int .i64 mm2, .slice p2 l2 c2] 61).c (i := 3) rfl
  simp only [World.size_alloc] at f9
  have f10 := (Is.made (w.alloc (.cells #[.int .i64 kf, .bool dg, .int .i64 tt, .int .i64 mm, .slice p l c] 61 (0, 0))) #[.int .i64 kf2, .bool dg2, .int .i64 tt2, .int .i64 mm2, .slice p2 l2 c2] 61).c (i := 4) rfl
  simp only [World.size_alloc] at f10
  go_enter Tryd.func67, Tryd.ntmps67
  go_wp2_with fail
  clear f1 f2 f3 f4 f5 f6 f7 f8 f9 f10
  replace da := ((da.alloc (.cells #[.int .i64 kf, .bool dg, .int .i64 tt, .int .i64 mm, .slice p l c] 61 (0, 0))).alloc (.cells #[.int .i64 kf2, .bool dg2, .int .i64 tt2, .int .i64 mm2, .slice p2 l2 c2] 61 (0, 0)))
  replace db := ((db.alloc (.cells #[.int .i64 kf, .bool dg, .int .i64 tt, .int .i64 mm, .slice p l c] 61 (0, 0))).alloc (.cells #[.int .i64 kf2, .bool dg2, .int .i64 tt2, .int .i64 mm2, .slice p2 l2 c2] 61 (0, 0)))
  have b1 := Is.made w #[.int .i64 kf, .bool dg, .int .i64 tt, .int .i64 mm, .slice p l c] 61
  replace b1 := (b1.alloc (.cells #[.int .i64 kf2, .bool dg2, .int .i64 tt2, .int .i64 mm2, .slice p2 l2 c2] 61 (0, 0)))
  have b2 := Is.made (w.alloc (.cells #[.int .i64 kf, .bool dg, .int .i64 tt, .int .i64 mm, .slice p l c] 61 (0, 0))) #[.int .i64 kf2, .bool dg2, .int .i64 tt2, .int .i64 mm2, .slice p2 l2 c2] 61
  simp only [World.size_alloc] at b2
  replace kx := kx.alloc (.cells #[.int .i64 kf, .bool dg, .int .i64 tt, .int .i64 mm, .slice p l c] 61 (0, 0))
  replace kx := kx.alloc (.cells #[.int .i64 kf2, .bool dg2, .int .i64 tt2, .int .i64 mm2, .slice p2 l2 c2] 61 (0, 0))
  (with_reducible refine (fSameG kf dg tt mm p l c kf2 dg2 tt2 mm2 p2 l2 c2 ds es hbd (fS1_any kf dg tt mm p l c) (fS1_any kf2 dg2 tt2 mm2 p2 l2 c2) _ da db).mono ?_)
  rintro r w1 ⟨rfl, k1⟩
  replace da := da.kb k1
  replace db := db.kb k1
  replace b1 := b1.kb k1
  replace b2 := b2.kb k1
  replace kx := kx.trans k1
  have s1 := k1.size
  simp only [World.size_alloc] at s1
  clear k1
  go_wp2
  go_ret
  exact ⟨rfl, kx⟩
theorem cSameFr (x y : FrT) (p p2 : Option Addr) (l c l2 c2 : Nat) (hbd : l ≤ 1000000) (w : World) (da : DatS w (.slice p l c) x.ds) (db : DatS w (.slice p2 l2 c2) y.ds) : Calls Tryd.prog 67 #[.agg #[.int .i64 x.k, .bool x.d, .int .i64 x.t, .int .i64 x.m, .slice p l c], .agg #[.int .i64 y.k, .bool y.d, .int .i64 y.t, .int .i64 y.m, .slice p2 l2 c2]] w fun r W' => r = .returned (.bool (frB x y)) ∧ Kb w W' :=
  fSameFr_1 x.k x.d x.t x.m p l c y.k y.d y.t y.m p2 l2 c2 x.ds y.ds hbd w da db
set_option maxRecDepth 100000 in
set_option maxHeartbeats 2000000 in
theorem cEqFr (pa pb : Option Addr) (la ca lb cb : Nat) (us vs : List FrT) (w : World) (hA : FrS w (.slice pa la ca) us) (hB : FrS w (.slice pb lb cb) vs) (hbd : la ≤ 1000000) (hall : Hid (∀ f ∈ us, f.ds.length ≤ 1000000)) : Calls Tryd.prog 83 #[.slice pa la ca, .slice pb lb cb, .func (.func 67) #[] #[]] w fun r W' => r = .returned (.bool (eqL frB us vs)) ∧ Kb w W' := by
  have hla := hA.len
  have hlb := hB.len
  by_cases hne : la = lb
  · subst hne
    have H0 : Hid (eqL frB us vs = eqL frB (us.drop 0) (vs.drop 0)) := rfl
    have HE : Hid (eqL frB (us.drop la) (vs.drop la) = true) := eqL_end hla.symm hlb.symm
    have HA := Lib.hid hA
    have HB := Lib.hid hB
    have HLA := Lib.hid hla
    have HLB := Lib.hid hlb
    clear hA hB hla hlb
    have en : ∀ args W, (callFunc 67 args).run Tryd.prog W = .ok (.enter 67 args) W := enters_of Tryd.func67 (by kernel_rfl) rfl
    go_enter Tryd.func83, Tryd.ntmps83
    go_wp2
    go_loopg [17] la (fun gk s17 wr => ∃ i : Nat, s17 = .int .i64 i ∧ i + gk = la ∧ Hid (eqL frB us vs = eqL frB (us.drop i) (vs.drop i)) ∧ Kb w wr)
    case atStart => exact ⟨0, rfl, by omega, H0, Kb.refl _⟩
    case round =>
      obtain ⟨i, rfl, hi, hE, kx⟩ := hrel
      have hi0 : (0 : Int) ≤ (i : Int) := by omega
      by_cases hlt : i < la
      · have hA1 := HA.out.kb kx
        have hB1 := HB.out.kb kx
        obtain ⟨b, off, rfl, hat⟩ := hA1.at (by omega)
        obtain ⟨b2, off2, rfl, hat2⟩ := hB1.at (by omega)
        obtain ⟨x, hx⟩ : ∃ x, us[i]? = some x := ⟨_, List.getElem?_eq_getElem (by have := HLA.out; omega)⟩
        obtain ⟨y, hy⟩ : ∃ y, vs[i]? = some y := ⟨_, List.getElem?_eq_getElem (by have := HLB.out; omega)⟩
        obtain ⟨q3, m3, e3, x0, x1, x2, x3, x4, dx⟩ := hat i x hx
        obtain ⟨q4, m4, e4, y0, y1, y2, y3, y4, dy⟩ := hat2 i y hy
        have qy0 := cell_al y0 (.cells #[.int .i64 x.k, .bool x.d, .int .i64 x.t, .int .i64 x.m, .slice q3 m3 e3] 61 (0, 0))
        have qy1 := cell_al y1 (.cells #[.int .i64 x.k, .bool x.d, .int .i64 x.t, .int .i64 x.m, .slice q3 m3 e3] 61 (0, 0))
        have qy2 := cell_al y2 (.cells #[.int .i64 x.k, .bool x.d, .int .i64 x.t, .int .i64 x.m, .slice q3 m3 e3] 61 (0, 0))
        have qy3 := cell_al y3 (.cells #[.int .i64 x.k, .bool x.d, .int .i64 x.t, .int .i64 x.m, .slice q3 m3 e3] 61 (0, 0))
        have qy4 := cell_al y4 (.cells #[.int .i64 x.k, .bool x.d, .int .i64 x.t, .int .i64 x.m, .slice q3 m3 e3] 61 (0, 0))
        have hD := eqL_drop (p := frB) hx hy
        have Hi := Lib.hid hi
        have k1 := (kx.alloc (.cells #[.int .i64 x.k, .bool x.d, .int .i64 x.t, .int .i64 x.m, .slice q3 m3 e3] 61 (0, 0))).alloc (.cells #[.int .i64 y.k, .bool y.d, .int .i64 y.t, .int .i64 y.m, .slice q4 m4 e4] 61 (0, 0))
        have i0 := (Is.made wr #[.int .i64 x.k, .bool x.d, .int .i64 x.t, .int .i64 x.m, .slice q3 m3 e3] 61).alloc (.cells #[.int .i64 y.k, .bool y.d, .int .i64 y.t, .int .i64 y.m, .slice q4 m4 e4] 61 (0, 0))
        have i1 := Is.made (wr.alloc (.cells #[.int .i64 x.k, .bool x.d, .int .i64 x.t, .int .i64 x.m, .slice q3 m3 e3] 61 (0, 0))) #[.int .i64 y.k, .bool y.d, .int .i64 y.t, .int .i64 y.m, .slice q4 m4 e4] 61
        rw [World.size_alloc] at i1
        have f0 := i0.c (i := 0) rfl
        have f1 := i0.c (i := 1) rfl
        have f2 := i0.c (i := 2) rfl
        have f3 := i0.c (i := 3) rfl
        have f4 := i0.c (i := 4) rfl
        have g0 := i1.c (i := 0) rfl
        have g1 := i1.c (i := 1) rfl
        have g2 := i1.c (i := 2) rfl
        have g3 := i1.c (i := 3) rfl
        have g4 := i1.c (i := 4) rfl
        have dx2 := (dx.alloc (.cells #[.int .i64 x.k, .bool x.d, .int .i64 x.t, .int .i64 x.m, .slice q3 m3 e3] 61 (0, 0))).alloc (.cells #[.int .i64 y.k, .bool y.d, .int .i64 y.t, .int .i64 y.m, .slice q4 m4 e4] 61 (0, 0))
        have dy2 := (dy.alloc (.cells #[.int .i64 x.k, .bool x.d, .int .i64 x.t, .int .i64 x.m, .slice q3 m3 e3] 61 (0, 0))).alloc (.cells #[.int .i64 y.k, .bool y.d, .int .i64 y.t, .int .i64 y.m, .slice q4 m4 e4] 61 (0, 0))
        have QQ := Lib.hid (fun W (da : DatS W (.slice q3 m3 e3) x.ds) (db : DatS W (.slice q4 m4 e4) y.ds) => cSameFr x y q3 q4 m3 e3 m4 e4 (by have := hall.out _ (List.mem_of_getElem? hx); have := dx.len; omega) W da db)
        clear hat hat2 hx hy hA1 hB1 i0 i1 dx dy
        rcases Bool.eq_false_or_eq_true (frB x y) with hp | hp
        · have hE2 : Hid (eqL frB us vs = eqL frB (us.drop (i + 1)) (vs.drop (i + 1))) := hE.out.trans (hD.trans (by rw [hp, Bool.true_and]))
          clear hD hE hi
          have Q := QQ
          rw [hp] at Q
          clear hp
          go_wp2_with fail
          (with_reducible refine (Q.out _ dx2 dy2).mono ?_)
          rintro r w1 ⟨rfl, k2⟩
          go_wp2
          have hi := Hi.out
          go_roundg (gk - 1)
          case measure => omega
          case rel => exact ⟨i + 1, by go_num, by omega, hE2, k1.trans k2⟩
        · have hE2 : Hid (eqL frB us vs = false) := hE.out.trans (hD.trans (by rw [hp, Bool.false_and]))
          clear hD hE hi
          have Q := QQ
          rw [hp] at Q
          clear hp
          go_wp2_with fail
          (with_reducible refine (Q.out _ dx2 dy2).mono ?_)
          rintro r w1 ⟨rfl, k2⟩
          go_wp2
          go_ret
          exact ⟨by rw [hE2.out]; rfl, k1.trans k2⟩
      · obtain rfl : i = la := by omega
        have hE2 : Hid (eqL frB us vs = true) := hE.out.trans HE.out
        clear hi hE HE
        go_wp2
        go_ret
        exact ⟨by rw [hE2.out]; rfl, kx⟩
  · have hE : Hid (eqL frB us vs = false) := eqL_len (by omega)
    have hn : ((la : Int) != (lb : Int)) = true := by simp; omega
    clear hA hB hla hlb
    go_enter Tryd.func83, Tryd.ntmps83
    go_wp2
    go_ret
    exact ⟨by rw [hE.out]; rfl, Kb.refl _⟩
end Go.Proofs.YtgclljgdoonnmaaDoor
