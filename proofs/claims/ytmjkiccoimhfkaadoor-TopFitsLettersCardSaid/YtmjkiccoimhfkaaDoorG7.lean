/- Package grades: deviations. -/
import Derived.Test.YtmjkiccoimhfkaaDoorG6
import Derived.Deep.CutRange
import Derived.Shelf.Abstract
namespace Go.Proofs.YtmjkiccoimhfkaaDoor
open Go.RowKit

def devLo (z : Int) (h : Bool) (k : Nat) (g : Int) : Int := if h then -dvHi k (shiI z k) (tolI z g) else dvLo k (shiI z k) (tolI z g)
def devHi (z : Int) (h : Bool) (k : Nat) (g : Int) : Int := if h then -dvLo k (shiI z k) (tolI z g) else dvHi k (shiI z k) (tolI z g)
theorem dv_bd (k : Nat) (s t : Int) (hs : 0 ≤ s) (hs2 : s ≤ 110) (ht : 0 ≤ t) (ht2 : t ≤ 352) : -462 ≤ dvLo k s t ∧ dvLo k s t ≤ 110 ∧ -110 ≤ dvHi k s t ∧ dvHi k s t ≤ 462 := by
  unfold dvLo dvHi; (repeat' split) <;> omega
abbrev lim0 : Obj := .cells #[.int .i64 0, .int .i64 0] 27 (0, 0)
abbrev clsO (T : TypeId) (h : Bool) (k g : Int) : Obj := .cells #[.bool h, .int .i64 k, .int .i64 g] T (0, 0)
set_option maxRecDepth 100000 in
set_option maxHeartbeats 4000000 in
theorem gdeviations (z g : Int) (h : Bool) (k : Nat) (h2 : z ≤ 100000) (h3 : 5 ≤ g) (h4 : g ≤ 12) (hk : k < 10) :
    Gq 26 #[.int .i64 z, .agg #[.bool h, .int .i64 (k : Int), .int .i64 g]] (.agg #[.int .i64 (devLo z h k g), .int .i64 (devHi z h k g)]) := Lib.hid fun w hg => by
  have q1 := gtolerance z g h2 h3 h4
  unfold Gq at q1
  have ix := fun b => lt_ix b k hk
  have ql : Hid (∀ W : World, Calls Tryd.prog 39 #[.int .i64 (tolI z g)] W fun r w' => r = .returned (.agg (LT W.heap.size)) ∧ w'.cell? ⟨W.heap.size, 0, none⟩ = some (.int .i64 (tolI z g)) ∧ Kb W w' ∧ W.heap.size < w'.heap.size) := Lib.hid (gletters (tolI z g))
  have cls := (Is.made w #[.bool h, .int .i64 (k : Int), .int .i64 g] 32).alloc lim0
  have lim := Is.made (w.alloc (clsO 32 h k g)) #[.int .i64 0, .int .i64 0] 27
  rw [World.size_alloc] at lim
  have kk := ((Kb.refl w).alloc (clsO 32 h k g)).alloc lim0
  have hgd := hg.kb kk.drew
  have hga := fun o => hg.kb ((kk.alloc o).drew)
  have x1 := cls.c (i := 1) rfl
  have x2 := cls.c (i := 2) rfl
  have x1a := fun o => (cls.alloc o).c (i := 1) rfl
  have x2a := fun o => (cls.alloc o).c (i := 2) rfl
  have i1 : (0 : Int) ≤ (k : Int) := by omega
  have i2 : (k : Int) < 10 := by omega
  generalize hT : tolI z g = T at *
  go_enter Tryd.func26, Tryd.ntmps26
  go_wp2_with fail
  go_cut [5] from 7 to 15 (fun s5 wx => ∃ bv c, s5 = .pointer (some ⟨bv, 0, none⟩) ∧ w.heap.size + 1 < bv ∧ Is wx bv #[.int .i64 (shfI k), cloV (fnI k) c] 83 ∧ wx.cell? ⟨c, 0, none⟩ = some (.int .i64 T) ∧ Is wx w.heap.size #[.bool h, .int .i64 (k : Int), .int .i64 g] 32 ∧ Is wx (w.heap.size + 1) #[.int .i64 0, .int .i64 0] 27 ∧ Kb w wx)
  case first =>
    go_region_held3 (fun w' => w'.cell? ⟨w.heap.size, 1, none⟩ = some (.int .i64 (k : Int)) ∧ w'.cell? ⟨w.heap.size, 2, none⟩ = some (.int .i64 g))
      (first
        | exact ⟨y2, yb2⟩
        | exact ⟨y2a _, yb2a _⟩
        | exact ⟨cell_far (cell_far y2 hb6) hb6, cell_far (cell_far yb2 hb6) hb6⟩
        | exact ⟨y1, yb1⟩
        | exact ⟨y1a _, yb1a _⟩
        | exact ⟨x1, x2⟩
        | exact ⟨x1a _, x2a _⟩
        | go_keep)
      (first
      | (go_at_call 24; with_reducible refine (q1.out _ hgd).mono ?_; rintro r w5 ⟨rfl, k5⟩; have cl5 := Is.kb (Is.drew cls) k5; have y1 := cl5.c (i := 1) rfl; have y1a := fun o => (Is.alloc cl5 o).c (i := 1) rfl; have yb1 := cl5.c (i := 2) rfl; have yb1a := fun o => (Is.alloc cl5 o).c (i := 2) rfl; have li5 := Is.kb (Is.drew lim) k5; have kk5 := Kb.trans (Kb.drew kk) k5)
      | (go_at_call 24; with_reducible refine (q1.out _ (hga _)).mono ?_; rintro r w5 ⟨rfl, k5⟩; have cl5 := Is.kb (Is.drew (Is.alloc cls _)) k5; have y1 := cl5.c (i := 1) rfl; have y1a := fun o => (Is.alloc cl5 o).c (i := 1) rfl; have yb1 := cl5.c (i := 2) rfl; have yb1a := fun o => (Is.alloc cl5 o).c (i := 2) rfl; have z5 := Is.kb (Is.drew (Is.made _ _ _)) k5; rw [World.size_alloc, World.size_alloc] at z5; have hb6 := nn6 w.heap.size; have hb7 := nn7 w.heap.size; have hb8 := nn8 w.heap.size; have hb9 := nn9 w.heap.size; have hb5 := Ne.symm (Nat.ne_of_lt z5.lt); have li5 := Is.kb (Is.drew (Is.alloc lim _)) k5; have kk5 := Kb.trans (Kb.drew (Kb.alloc kk _)) k5)
      | (go_at_call 39; with_reducible refine (ql.out _).mono ?_; rintro r w6 ⟨rfl, ct, k6, hlt⟩; first
          | (have cl6 := Is.kb cl5 k6; have li6 := Is.kb li5 k6; have kk6 := Kb.trans kk5 k6; have y2 := cl6.c (i := 1) rfl; have y2a := fun o => (Is.alloc cl6 o).c (i := 1) rfl; have yb2 := cl6.c (i := 2) rfl; have yb2a := fun o => (Is.alloc cl6 o).c (i := 2) rfl; (try (have z6 := Is.kb z5 k6; have a0 := z6.c (i := 0) rfl; have a1 := z6.c (i := 1) rfl; have f0 := z6.f 0; have f1 := z6.f 1)))
          | (have cl6 := Is.kb (Is.alloc cl5 _) k6; have li6 := Is.kb (Is.alloc li5 _) k6; have kk6 := Kb.trans (Kb.alloc kk5 _) k6; have y2 := cl6.c (i := 1) rfl; have y2a := fun o => (Is.alloc cl6 o).c (i := 1) rfl; have yb2 := cl6.c (i := 2) rfl; have yb2a := fun o => (Is.alloc cl6 o).c (i := 2) rfl; have z6 := Is.kb (Is.made _ _ _) k6; have hb6 : w.heap.size ≠ w5.heap.size := Nat.ne_of_lt cl5.lt; have hb7 : w.heap.size + 1 ≠ w5.heap.size := Nat.ne_of_lt li5.lt; have hb8 : w.heap.size ≤ w5.heap.size := Nat.le_of_lt cl5.lt; have hb5 : w5.heap.size + 1 ≠ w5.heap.size := Nat.succ_ne_self _; have hb9 : w.heap.size + 1 < w5.heap.size := li5.lt; rw [World.size_alloc] at ct; have a0 := z6.c (i := 0) rfl; have a1 := z6.c (i := 1) rfl; have f0 := z6.f 0; have f1 := z6.f 1)))
    all_goals go_wp2_with fail
    all_goals go_meet
    all_goals first
      | exact ⟨_, _, rfl, li6.lt, Is.made _ _ _, cell_al ct _, cl6.alloc _, li6.alloc _, kk6.alloc _⟩
      | exact ⟨_, _, rfl, hb9, (z6.set 0 _).set 1 _, cell_far (cell_far ct hb5) hb5, (cl6.far hb6 _).far hb6 _, (li6.far hb7 _).far hb7 _, (kk6.setCell hb8 _).setCell hb8 _⟩
      | trace_state
  case rest =>
    clear x1 x2 x1a x2a hgd hga cls lim kk i1 i2
    obtain ⟨bv, c, rfl, hbv, lt, ct, cls, lim, kk⟩ := hcut
    rename World => wr
    clear q1 ql ix
    have q3 := gstep z h2
    unfold Gs at q3
    have hgr := hg.kb kk.drew
    have hgra := fun o => hg.kb ((kk.alloc o).drew)
    have hk8 := stp_le z
    have cb := hgr.2.1 (stp z) (by omega)
    have cb0 : wr.cell? ⟨0, stp z, none⟩ = some (.int .i64 (baseI (stp z))) := cb
    have cba := fun o => cell_al cb0 o
    have ctd : (World.drew wr).cell? ⟨c, 0, none⟩ = some (.int .i64 T) := ct
    have ctda : ∀ o, (World.drew (wr.alloc o)).cell? ⟨c, 0, none⟩ = some (.int .i64 T) := fun o => cell_al ct o
    have l0 := lt.c (i := 0) rfl
    have l1 := lt.c (i := 1) rfl
    have l0a := fun o => cell_al l0 o
    have l1a := fun o => cell_al l1 o
    have hs := shiP_bd z k
    have hs2 := shiI_bd z k
    have ht := tolI_bd z g
    rw [hT] at ht
    have e1 : IntKind.i64.wrap (baseI (stp z) * shfI k) = shiP z k := IntWalk.i64_in _ (by show _ ∧ _; unfold shiP at hs; omega)
    have e3 : (shiP z k).tdiv 10 = shiI z k := by unfold shiI; rw [Int.tdiv_eq_ediv_of_nonneg (by omega)]
    have e4 : IntKind.i64.wrap (shiI z k) = shiI z k := IntWalk.i64_in _ (by omega)
    have he : ∀ args W, (callFunc (fnI k) args).run Tryd.prog W = .ok (.enter (fnI k) args) W := by
      unfold fnI; split
      · exact enters_of Tryd.func47 (by kernel_rfl) rfl
      · split
        · exact enters_of Tryd.func48 (by kernel_rfl) rfl
        · exact enters_of Tryd.func49 (by kernel_rfl) rfl
    have q4 : Hid (∀ W : World, W.cell? ⟨c, 0, none⟩ = some (.int .i64 T) → Calls Tryd.prog (fnI k) #[.int .i64 (shiI z k), .pointer (some ⟨c, 0, none⟩)] W fun r w' => r = .returned (.agg #[.int .i64 (dvLo k (shiI z k) T), .int .i64 (dvHi k (shiI z k) T)]) ∧ Kb W w') := Lib.hid fun W hc => gclo k c _ T hs2.1 (by omega) (by omega) (by omega) W hc
    have hd := dv_bd k (shiI z k) T hs2.1 hs2.2 (by omega) ht.2
    have i1 : (0 : Int) ≤ (stp z : Int) := by omega
    have i2 : (stp z : Int) < 8 := by omega
    have dl : devLo z h k g = if h then -dvHi k (shiI z k) T else dvLo k (shiI z k) T := by unfold devLo; rw [hT]
    have dh : devHi z h k g = if h then -dvLo k (shiI z k) T else dvHi k (shiI z k) T := by unfold devHi; rw [hT]
    have DL := Lib.hid dl
    have DH := Lib.hid dh
    clear dl dh hs hs2 ht hT h2 h3 h4 hk hk8 hg
    generalize hF : fnI k = F at *
    clear hF
    generalize dvLo k (shiI z k) T = lo at *
    generalize dvHi k (shiI z k) T = hi at *
    generalize shiI z k = S at *
    generalize shiP z k = P at *
    generalize baseI (stp z) = b at *
    generalize shfI k = f at *
    generalize stp z = t at *
    go_wp2_with fail
    go_cut [6] from 15 to 26 (fun s6 wx => ∃ b2, s6 = .pointer (some ⟨b2, 0, none⟩) ∧ w.heap.size + 1 < b2 ∧ Is wx b2 #[.int .i64 lo, .int .i64 hi] 27 ∧ Is wx w.heap.size #[.bool h, .int .i64 (k : Int), .int .i64 g] 32 ∧ Is wx (w.heap.size + 1) #[.int .i64 0, .int .i64 0] 27 ∧ Kb w wx)
    case first =>
      go_region_held3 (fun w' => w'.cell? ⟨bv, 0, none⟩ = some (.int .i64 f) ∧ w'.cell? ⟨bv, 1, none⟩ = some (cloV F c) ∧ w'.cell? ⟨0, t, none⟩ = some (.int .i64 b))
        (first
          | exact ⟨y0, y1, y2⟩
          | exact ⟨cell_al y0 _, cell_al y1 _, cell_al y2 _⟩
          | exact ⟨cell_far (cell_far y0 hb6) hb6, cell_far (cell_far y1 hb6) hb6, cell_far (cell_far y2 hbg) hbg⟩
          | exact ⟨l0, l1, cb0⟩
          | exact ⟨l0a _, l1a _, cba _⟩
          | go_keep)
        (first
          | (go_at_call 38; with_reducible refine (q3.out _ hgr).mono ?_; rintro r w5 ⟨rfl, rfl⟩)
          | (go_at_call 38; with_reducible refine (q3.out _ (hgra _)).mono ?_; rintro r w5 ⟨rfl, rfl⟩)
          | (go_at_fn F; with_reducible refine (q4.out _ ctd).mono ?_; rintro r w6 ⟨rfl, k6⟩; have k7 := Kb.trans (Kb.drew (Kb.refl wr)) k6; have cl6 := Is.kb cls k7; have li6 := Is.kb lim k7; have kk6 := Kb.trans kk k7; have y0 := Kb.cell k7 l0; have y1 := Kb.cell k7 l1; have y2 := Kb.cell k7 cb0)
          | (go_at_fn F; with_reducible refine (q4.out _ (ctda _)).mono ?_; rintro r w6 ⟨rfl, k6⟩; have k7 := Kb.trans (Kb.drew (Kb.alloc (Kb.refl wr) _)) k6; have cl6 := Is.kb cls k7; have li6 := Is.kb lim k7; have kk6 := Kb.trans kk k7; have y0 := Kb.cell k7 l0; have y1 := Kb.cell k7 l1; have y2 := Kb.cell k7 cb0; have z6 := Is.kb (Is.drew (Is.made _ _ _)) k6; have a0 := z6.c (i := 0) rfl; have a1 := z6.c (i := 1) rfl; have f0 := z6.f 0; have f1 := z6.f 1; have hb6 := Nat.ne_of_lt lt.lt; have hbg := Nat.ne_of_lt (World.block_lt_of_cell? _ _ cb0)))
      all_goals go_wp2_with fail
      all_goals go_meet
      all_goals first
        | exact ⟨_, rfl, li6.lt, Is.made _ _ _, cl6.alloc _, li6.alloc _, kk6.alloc _⟩
        | exact ⟨_, rfl, lim.lt, (z6.set 0 _).set 1 _, (cl6.far (Nat.ne_of_lt cls.lt) _).far (Nat.ne_of_lt cls.lt) _, (li6.far (Nat.ne_of_lt lim.lt) _).far (Nat.ne_of_lt lim.lt) _, (kk6.setCell kk.size _).setCell kk.size _⟩
    case rest =>
      clear lt ct cb cb0 cba ctd ctda l0 l1 l0a l1a q3 q4 hgr hgra he e1 e3 e4 cls lim kk
      obtain ⟨b2, rfl, hb2, l2, cls, lim, kk⟩ := hcut
      rename World => wx
      obtain ⟨hd1, hd2, hd3, hd4⟩ := hd
      have d0 := l2.c (i := 0) rfl
      have d1 := l2.c (i := 1) rfl
      have c0 := cls.c (i := 0) rfl
      have m0 := lim.c (i := 0) rfl
      have m1 := lim.c (i := 1) rfl
      have f0 := lim.f 0
      have f1 := lim.f 1
      clear l2 cls hbv
      cases h with
      | true =>
        go_wp2
        refine ret_row Tryd.results26 rfl rfl ((lim.set 0 _).set 1 _) Tryd.underlying27 rfl (by kernel_rfl) ?_
        exact ⟨by rw [DL.out, DH.out]; rfl, (kk.setCell (Nat.le_succ _) _).setCell (Nat.le_succ _) _⟩
      | false =>
        go_wp2
        refine ret_row Tryd.results26 rfl rfl ((lim.set 0 _).set 1 _) Tryd.underlying27 rfl (by kernel_rfl) ?_
        exact ⟨by rw [DL.out, DH.out]; rfl, (kk.setCell (Nat.le_succ _) _).setCell (Nat.le_succ _) _⟩
end Go.Proofs.YtmjkiccoimhfkaaDoor
