/- Texts Il2, Il3, Is18, Is19, Il5, Il6, Il7, Im3, Im4, Il8: each says in its own first comment what it proves. -/
import Derived.Test.YtabepobcmpmkdaaGreatM74
import Derived.Test.YtabepobcmpmkdaaGreatM65
import Derived.Test.YtabepobcmpmkdaaGreatM82
import Derived.Test.YtabepobcmpmkdaaGreatM78
import Derived.Test.YtabepobcmpmkdaaGreatM81
import Derived.Deep.RegionHeld3
/- Reference of layer 3: Common (a drawn region with a free new block, two calls and a store into it: RegF), Meet over its calls. -/
namespace Go.Proofs.YtabepobcmpmkdaaGreat
open Go.RowKit
open Go.Lib (nDigits itoa decDigits)

section
variable {a : Act} {w : World} {o : Oper} {x y : Operand} {b f : Nat} {u v : ByteArray}
theorem op_alSp (h : o.op = .alloc 24) : (execOp a.eval o).run Tryz.prog w = .ok (.value (.pointer (some ⟨w.heap.size, 0, none⟩))) (w.alloc (.cells #[.string ⟨#[]⟩, .string ⟨#[]⟩] 24 (0, 0))) := by
  generalize a.eval = r at *
  simp [execOp, h, go_sem]
theorem op_stSp {s t : ByteArray} (h : o.op = .store 24 x y) (hx : a.eval x = .pointer (some ⟨b, 0, none⟩)) (hy : a.eval y = .agg #[.string u, .string v]) (hb : SpB w b s t) :
    (execOp a.eval o).run Tryz.prog w = .ok .skip ((w.setCell ⟨b, 0, none⟩ (.string u)).setCell ⟨b, 1, none⟩ (.string v)) := by
  have c0 := hb.c0
  have c1 := hb.c1
  have f0 := hb.f 0
  have f1 := hb.f 1
  have l := hb.lt
  generalize a.eval = r at *
  simp [execOp, h, hx, hy, go_sem, c0, c1, f0, f1]
theorem op_faSp0 (h : o.op = .fieldAddr 24 x 0) (hx : a.eval x = .pointer (some ⟨b, f, none⟩)) : (execOp a.eval o).run Tryz.prog w = .ok (.value (.pointer (some ⟨b, f, none⟩))) w := by
  generalize a.eval = r at *
  simp [execOp, h, hx, go_sem]
theorem op_faSp1 (h : o.op = .fieldAddr 24 x 1) (hx : a.eval x = .pointer (some ⟨b, f, none⟩)) : (execOp a.eval o).run Tryz.prog w = .ok (.value (.pointer (some ⟨b, f + 1, none⟩))) w := by
  generalize a.eval = r at *
  simp [execOp, h, hx, go_sem]
theorem op_ldRat (h : o.op = .load 22 x) (hx : a.eval x = .pointer (some ⟨b, f, none⟩)) (hc : w.cell? ⟨b, f, none⟩ = some (.string v)) : (execOp a.eval o).run Tryz.prog w = .ok (.value (.string v)) w := by
  generalize a.eval = r at *
  simp [execOp, h, hx, go_sem, hc]
theorem op_bdSp (h : o.op = .build 24 #[(0, x), (1, y)]) (hx : a.eval x = .string u) (hy : a.eval y = .string v) : (execOp a.eval o).run Tryz.prog w = .ok (.value (.agg #[.string u, .string v])) w := by
  generalize a.eval = r at *
  simp [execOp, h, hx, hy, go_sem]
end
/-- what the chain hands on: behind the store the new block holds the span -/
def EC (i n base : Nat) (u v : ByteArray) (c : Nat) (V : Nat → Value) (w : World) : Prop := c = n → ∃ g, V i = .pointer (some ⟨g, 0, none⟩) ∧ base ≤ g ∧ SpB w g u v
def FC (i base : Nat) (k : Nat) (u : Value) (w : World) : Prop := k = i → ∃ g, u = .pointer (some ⟨g, 0, none⟩) ∧ base ≤ g ∧ ∃ x y, SpB w g x y
section
variable {i n k c base : Nat} {s t : ByteArray} {V : Nat → Value} {w w' : World} {u : Value}
theorem FC.kept (h : FC i base k u w) (hk : Kp [] w w') : FC i base k u w' := fun e => by
  obtain ⟨g, e1, e2, x, y, h2⟩ := h e
  exact ⟨g, e1, e2, x, y, h2.kept hk (by simp)⟩
theorem FC.set {x y : ByteArray} (h : FC i base k u w) (b : Nat) (hb : SpB w b x y) (s t : ByteArray) : FC i base k u ((w.setCell ⟨b, 0, none⟩ (.string s)).setCell ⟨b, 1, none⟩ (.string t)) := fun e => by
  obtain ⟨g, e1, e2, x1, y1, h2⟩ := h e
  by_cases eb : g = b
  · subst eb; exact ⟨g, e1, e2, s, t, h2.set2 s t⟩
  · exact ⟨g, e1, e2, x1, y1, h2.far2 (Ne.symm eb) _ _⟩
theorem EC.kept (h : EC i n base s t c V w) (hk : Kp [] w w') : EC i n base s t c V w' := fun e => by
  obtain ⟨g, e1, e2, h2⟩ := h e
  exact ⟨g, e1, e2, h2.kept hk (by simp)⟩
theorem EC.free (h : EC i n base s t c V w) (hk : Kp [] w w') (hu : V k = undef) : EC i n base s t c (updV V k u) w' := fun e => by
  obtain ⟨g, e1, e2, h2⟩ := h.kept hk e
  refine ⟨g, ?_, e2, h2⟩
  rw [updV_ne (fun x => by subst x; rw [hu] at e1; simp [undef] at e1)]
  exact e1
theorem EC.small (h : c ≠ n) : EC i n base s t c V w := fun e => absurd e h
end

def com_s : RSt := ⟨13, 26, 3, fun i => ([7, 8, 9, 10, 11, 12, 13, 14, 15, 16, 17, 6, 26] : List Nat).getD i 0, fun i => ([0, 0, 0, 0, 1, 0, 0, 0, 0, 1, 0, 2, 1] : List Nat).getD i 0, fun i => ([0, 0, 0, 0, 0, 0, 0, 0, 0, 1, 0, 0, 2] : List Nat).getD i 0, fun i => ([13, 13, 13, 13, 13, 13, 11, 0, 1, 2, 3, 4, 5, 6, 7, 8, 9, 10, 13, 13, 13, 13, 13, 13, 13, 13, 13] : List Nat).getD i 13, fun i => ([4, 9, 12] : List Nat).getD i 0, fun _ => false, fun _ => true, fun _ => 0, fun _ => false⟩
def com_y : RSy := ⟨com_s, fun i => ([.at 0, .at 6, .at 1, .at 7, .at 4, .at 2, .at 8, .at 3, .at 9, .at 5, .at 10, .un, .un] : List SV).getD i .un, [(2, .at 0), (3, .at 1)], fun i => ([false, false, false, false, true, false, false, false, false, true, false, false, false] : List Bool).getD i false⟩
def com_ca : List (Nat × Nat × List SV) := [(4, 46, [.at 6, .at 7]), (9, 71, [.at 8, .at 9])]
theorem com_ok : reflOk (opsOf 1 Tryz.f69) com_y [0, 1, 2, 3, 5, 6, 7, 8, 10] com_ca [12] [11] = true := by kernel_rfl

set_option maxRecDepth 100000 in
set_option maxHeartbeats 8000000 in
theorem r3Common (l1 h1 l2 h2 u v : ByteArray) (c : Int) (w : World) (q1 : Ca 46 #[.string l1, .string l2] (.string u)) (q2 : Ca 71 #[.string h1, .string h2] (.string v)) (q3 : Ca 64 #[.string u, .string v] (.int .i64 c)) :
    Calls Tryz.prog 69 #[.agg #[.string l1, .string h1], .agg #[.string l2, .string h2]] w fun r w' => r = .returned (.tuple #[.agg #[.string (if 0 < c then ⟨#[]⟩ else u), .string (if 0 < c then ⟨#[]⟩ else v)], .bool (!decide (0 < c))]) ∧ Kp [] w w' := by
  unfold Ca at *
  have sa := ((SpB.made w l1 h1).alloc (.cells #[.string l2, .string h2] 24 (0, 0))).alloc (.cells #[.string ⟨#[]⟩, .string ⟨#[]⟩] 24 (0, 0))
  have sb := (SpB.made (w.alloc (.cells #[.string l1, .string h1] 24 (0, 0))) l2 h2).alloc (.cells #[.string ⟨#[]⟩, .string ⟨#[]⟩] 24 (0, 0))
  have sr := SpB.made ((w.alloc (.cells #[.string l1, .string h1] 24 (0, 0))).alloc (.cells #[.string l2, .string h2] 24 (0, 0))) ⟨#[]⟩ ⟨#[]⟩
  rw [World.size_alloc] at sb
  rw [World.size_alloc, World.size_alloc] at sr
  have kk : Kp [] w (((w.alloc (.cells #[.string l1, .string h1] 24 (0, 0))).alloc (.cells #[.string l2, .string h2] 24 (0, 0))).alloc (.cells #[.string ⟨#[]⟩, .string ⟨#[]⟩] 24 (0, 0))) := (((Kp.refl _ _).alloc _).alloc _).alloc _
  have hbase : (w.heap.size + 1 + 1 + 1) ≤ (World.drew (((w.alloc (.cells #[.string l1, .string h1] 24 (0, 0))).alloc (.cells #[.string l2, .string h2] 24 (0, 0))).alloc (.cells #[.string ⟨#[]⟩, .string ⟨#[]⟩] 24 (0, 0)))).heap.size := by show _ ≤ (((w.alloc (.cells #[.string l1, .string h1] 24 (0, 0))).alloc (.cells #[.string l2, .string h2] 24 (0, 0))).alloc (.cells #[.string ⟨#[]⟩, .string ⟨#[]⟩] 24 (0, 0))).heap.size; simp
  have hge : (World.drew (((w.alloc (.cells #[.string l1, .string h1] 24 (0, 0))).alloc (.cells #[.string l2, .string h2] 24 (0, 0))).alloc (.cells #[.string ⟨#[]⟩, .string ⟨#[]⟩] 24 (0, 0)))).heap.size ≤ (w.heap.size + 1 + 1 + 1) := by show (((w.alloc (.cells #[.string l1, .string h1] 24 (0, 0))).alloc (.cells #[.string l2, .string h2] 24 (0, 0))).alloc (.cells #[.string ⟨#[]⟩, .string ⟨#[]⟩] 24 (0, 0))).heap.size ≤ _; simp
  have sa0 := sa.c0
  have sa1 := sa.c1
  have sb0 := sb.c0
  have sb1 := sb.c1
  go_enter Tryz.func69, Tryz.ntmps69
  go_wp2_with fail
  rw [frame_lit]
  refine reg_reflF com_y (fun k => ([.pointer (some ⟨w.heap.size, 0, none⟩), .pointer (some ⟨w.heap.size + 1, 0, none⟩), .pointer (some ⟨w.heap.size, 1, none⟩), .pointer (some ⟨w.heap.size + 1, 1, none⟩), .string u, .string v, .string l1, .string l2, .string h1, .string h2, .agg #[.string u, .string v]] : List Value).getD k undef) [] (FC 11 (w.heap.size + 1 + 1 + 1)) (EC 11 3 (w.heap.size + 1 + 1 + 1) u v) (opsOf 1 Tryz.f69) [0, 1, 2, 3, 5, 6, 7, 8, 10] com_ca [12] [11] (by kernel_rfl) (by kernel_rfl) com_ok ⟨rfl, rfl, trivial⟩ ?sp ?ca ?cx ?fr (EC.small (by decide)) (fun c v w1 w2 h k => h.kept k) (fun c v w0 w1 j u h k hf hn hu => h.free k hu) (fun i u w1 w2 h k => h.kept k) ?rest
  case sp =>
    refine ⟨?_, ?_, ?_, ?_, ?_, ?_, ?_, ?_, ?_, trivial⟩
    · intro T wz H o ho; have he : o.op = .fieldAddr 24 (.tmp 2) 0 := Option.some.inj ((congrArg (fun z => z.map Oper.op) ho).symm.trans (show ((opsOf 1 Tryz.f69)[0]?).map Oper.op = some (.fieldAddr 24 (.tmp 2) 0) by kernel_rfl)); exact op_faSp0 he (H.ev (.tmp 2) (.at 0) (by kernel_rfl))
    · intro T wz H o ho; have he : o.op = .load 22 (.tmp 7) := Option.some.inj ((congrArg (fun z => z.map Oper.op) ho).symm.trans (show ((opsOf 1 Tryz.f69)[1]?).map Oper.op = some (.load 22 (.tmp 7)) by kernel_rfl)); exact op_ldRat he (H.ev (.tmp 7) (.at 0) (by kernel_rfl)) (SpB.kept (L := []) (SpB.drew sa) H.kp (by simp)).c0
    · intro T wz H o ho; have he : o.op = .fieldAddr 24 (.tmp 3) 0 := Option.some.inj ((congrArg (fun z => z.map Oper.op) ho).symm.trans (show ((opsOf 1 Tryz.f69)[2]?).map Oper.op = some (.fieldAddr 24 (.tmp 3) 0) by kernel_rfl)); exact op_faSp0 he (H.ev (.tmp 3) (.at 1) (by kernel_rfl))
    · intro T wz H o ho; have he : o.op = .load 22 (.tmp 9) := Option.some.inj ((congrArg (fun z => z.map Oper.op) ho).symm.trans (show ((opsOf 1 Tryz.f69)[3]?).map Oper.op = some (.load 22 (.tmp 9)) by kernel_rfl)); exact op_ldRat he (H.ev (.tmp 9) (.at 1) (by kernel_rfl)) (SpB.kept (L := []) (SpB.drew sb) H.kp (by simp)).c0
    · intro T wz H o ho; have he : o.op = .fieldAddr 24 (.tmp 2) 1 := Option.some.inj ((congrArg (fun z => z.map Oper.op) ho).symm.trans (show ((opsOf 1 Tryz.f69)[5]?).map Oper.op = some (.fieldAddr 24 (.tmp 2) 1) by kernel_rfl)); exact op_faSp1 he (H.ev (.tmp 2) (.at 0) (by kernel_rfl))
    · intro T wz H o ho; have he : o.op = .load 22 (.tmp 12) := Option.some.inj ((congrArg (fun z => z.map Oper.op) ho).symm.trans (show ((opsOf 1 Tryz.f69)[6]?).map Oper.op = some (.load 22 (.tmp 12)) by kernel_rfl)); exact op_ldRat he (H.ev (.tmp 12) (.at 2) (by kernel_rfl)) (SpB.kept (L := []) (SpB.drew sa) H.kp (by simp)).c1
    · intro T wz H o ho; have he : o.op = .fieldAddr 24 (.tmp 3) 1 := Option.some.inj ((congrArg (fun z => z.map Oper.op) ho).symm.trans (show ((opsOf 1 Tryz.f69)[7]?).map Oper.op = some (.fieldAddr 24 (.tmp 3) 1) by kernel_rfl)); exact op_faSp1 he (H.ev (.tmp 3) (.at 1) (by kernel_rfl))
    · intro T wz H o ho; have he : o.op = .load 22 (.tmp 14) := Option.some.inj ((congrArg (fun z => z.map Oper.op) ho).symm.trans (show ((opsOf 1 Tryz.f69)[8]?).map Oper.op = some (.load 22 (.tmp 14)) by kernel_rfl)); exact op_ldRat he (H.ev (.tmp 14) (.at 3) (by kernel_rfl)) (SpB.kept (L := []) (SpB.drew sb) H.kp (by simp)).c1
    · intro T wz H o ho; have he : o.op = .build 24 #[(0, .tmp 11), (1, .tmp 16)] := Option.some.inj ((congrArg (fun z => z.map Oper.op) ho).symm.trans (show ((opsOf 1 Tryz.f69)[10]?).map Oper.op = some (.build 24 #[(0, .tmp 11), (1, .tmp 16)]) by kernel_rfl)); exact op_bdSp he (H.ev (.tmp 11) (.at 4) (by kernel_rfl)) (H.ev (.tmp 16) (.at 5) (by kernel_rfl))
  case ca =>
    refine ⟨?_, ?_, trivial⟩
    · exact ⟨(enters_of Tryz.func46 (by kernel_rfl) rfl), fun wz hk => (q1.out wz).mono fun x w2 ⟨h1, h2⟩ => ⟨_, h1, h2, fun _ => rfl, fun V hE => EC.small (by decide)⟩⟩
    · exact ⟨(enters_of Tryz.func71 (by kernel_rfl) rfl), fun wz hk => (q2.out wz).mono fun x w2 ⟨h1, h2⟩ => ⟨_, h1, h2, fun _ => rfl, fun V hE => EC.small (by decide)⟩⟩
  case cx =>
    refine ⟨?_, trivial⟩
    · intro l T wz hM H hdn o ho; obtain ⟨g, e1, e2, x1, y1, hp⟩ := (H.fr 11 (by decide : 11 < 13) rfl (by kernel_rfl)) rfl; have he : o.op = .store 24 (.tmp 6) (.tmp 17) := Option.some.inj ((congrArg (fun z => z.map Oper.op) ho).symm.trans (show ((opsOf 1 Tryz.f69)[12]?).map Oper.op = some (.store 24 (.tmp 6) (.tmp 17)) by kernel_rfl)); refine ⟨_, op_stSp he ((frame_eval (N := 26) (d := 6) (by decide)).trans e1) (H.ev (.tmp 17) (.at 10) (by kernel_rfl)) hp, kp_set2 H.kp (Nat.le_trans hge e2) _ _, fun j u hf => hf.set g hp _ _, rfl, rfl, ?_⟩; exact fun _ => ⟨g, (updV_ne (by decide)).trans ((if_pos (show 11 < com_y.st.m ∧ com_y.st.kind 11 ≠ 0 ∧ l.getD 11 false = true from ⟨by decide, by decide, hdn 11 (by kernel_rfl)⟩)).trans e1), e2, hp.set2 u v⟩
  case fr =>
    refine ⟨?_, trivial⟩
    · intro T wz H o ho; have he : o.op = .alloc 24 := Option.some.inj ((congrArg (fun z => z.map Oper.op) ho).symm.trans (show ((opsOf 1 Tryz.f69)[11]?).map Oper.op = some (.alloc 24) by kernel_rfl)); exact ⟨_, _, op_alSp he, fun _ => ⟨_, rfl, Nat.le_trans hbase H.kp.size, _, _, SpB.made wz _ _⟩, (Kp.refl _ _).alloc _, fun b o p e => by cases e; exact Nat.le_refl _⟩
  case rest =>
    intro T w7 hout hval k hF hE
    rw [show frameOf com_y.st.N T = (⟨#[T 0, T 1, T 2, T 3, T 4, T 5, T 6, T 7, T 8, T 9, T 10, T 11, T 12, T 13, T 14, T 15, T 16, T 17, T 18, T 19, T 20, T 21, T 22, T 23, T 24, T 25], []⟩ : Act) from frame_list 26 T]
    obtain ⟨g, e1, e2, s6⟩ := hE rfl
    replace e1 : T 6 = .pointer (some ⟨g, 0, none⟩) := e1
    rw [e1, show T 4 = .pointer (some ⟨w.heap.size + 1 + 1, 0, none⟩) from hout 4 rfl]
    have kN := kk.trans k
    replace sr := sr.kept k (by simp)
    have ngr : w.heap.size + 1 + 1 ≠ g := by omega
    clear hout hval hF hE e1 sa0 sa1 sb0 sb1 sa sb hbase hge k kk q1 q2
    have g0 := s6.c0; have g1 := s6.c1
    go_wp2_with fail
    have ks := Kp.refl [] w7
    with_reducible refine (q3.out _).mono ?_
    rintro r w8 ⟨rfl, k⟩
    clear g0 g1 ks
    replace s6 := s6.kept k (by simp)
    replace sr := sr.kept k (by simp)
    replace kN := kN.trans k
    clear k q3
    have g0 := s6.c0; have g1 := s6.c1; have r0 := sr.c0; have f0 := sr.f 0
    by_cases hc : 0 < c
    · have z := sr.set2 ⟨#[]⟩ ⟨#[]⟩
      have kk := kp_set2 kN (show w.heap.size ≤ w.heap.size + 1 + 1 by omega) (.string ⟨#[]⟩) (.string ⟨#[]⟩)
      have f1 := (sr.set1 ⟨#[]⟩).f 1; have r1 := (sr.set1 ⟨#[]⟩).c1
      have d0 := z.c0; have d1 := z.c1
      clear z sr s6 kN
      go_wp2
      refine bodyPost_ret (v := .tuple #[.agg #[.string ⟨#[]⟩, .string ⟨#[]⟩], .bool false]) (by simp [results, Tryz.results69, go_sem, d0, d1]) rfl ?_
      exact ⟨rfl, kk⟩
    · have z := sr.set2 u v
      have kk := kp_set2 kN (show w.heap.size ≤ w.heap.size + 1 + 1 by omega) (.string u) (.string v)
      have f1 := (sr.set1 u).f 1; have r1 := (sr.set1 u).c1
      have d0 := z.c0; have d1 := z.c1
      clear z sr s6 kN
      go_wp2
      refine bodyPost_ret (v := .tuple #[.agg #[.string u, .string v], .bool true]) (by simp [results, Tryz.results69, go_sem, d0, d1]) rfl ?_
      exact ⟨rfl, kk⟩

set_option maxRecDepth 100000 in
set_option maxHeartbeats 4000000 in
theorem r3Meet_e (l1 h1 l2 h2  : ByteArray) (e : Int) (he : (e != 0) = true) (w : World) (qb : Ca 53 #[.agg #[.string l1, .string h1], .agg #[.string l2, .string h2]] (.int .i64 e)) :
    Calls Tryz.prog 20 #[.agg #[.string l1, .string h1], .agg #[.string l2, .string h2]] w fun r w' => r = .returned (.tuple #[.agg #[.string ⟨#[]⟩, .string ⟨#[]⟩], .bool false, .int .i64 e]) ∧ Kp [] w w' := by
  unfold Ca at *
  have sa := ((SpB.made w l1 h1).alloc (.cells #[.string l2, .string h2] 24 (0, 0))).alloc (.cells #[.string ⟨#[]⟩, .string ⟨#[]⟩] 24 (0, 0))
  have sb := (SpB.made (w.alloc (.cells #[.string l1, .string h1] 24 (0, 0))) l2 h2).alloc (.cells #[.string ⟨#[]⟩, .string ⟨#[]⟩] 24 (0, 0))
  have sr := SpB.made ((w.alloc (.cells #[.string l1, .string h1] 24 (0, 0))).alloc (.cells #[.string l2, .string h2] 24 (0, 0))) ⟨#[]⟩ ⟨#[]⟩
  rw [World.size_alloc] at sb
  rw [World.size_alloc, World.size_alloc] at sr
  have kk : Kp [] w (((w.alloc (.cells #[.string l1, .string h1] 24 (0, 0))).alloc (.cells #[.string l2, .string h2] 24 (0, 0))).alloc (.cells #[.string ⟨#[]⟩, .string ⟨#[]⟩] 24 (0, 0))) := (((Kp.refl _ _).alloc _).alloc _).alloc _
  have a0 := sa.c0
  have a1 := sa.c1
  have b0 := sb.c0
  have b1 := sb.c1
  go_enter Tryz.func20, Tryz.ntmps20
  go_wp2_with fail
  with_reducible refine (qb.out _).mono ?_
  rintro r w1 ⟨rfl, k⟩
  replace sa := sa.kept k (by simp); replace sb := sb.kept k (by simp); replace sr := sr.kept k (by simp); replace kk := kk.trans k
  clear a0 a1 b0 b1 k qb
  have x0 := sr.c0; have x1 := sr.c1; have y0 := sr.f 0; have y1 := sr.f 1
  have z := sr.set2 ⟨#[]⟩ ⟨#[]⟩
  have d0 := z.c0; have d1 := z.c1
  have kf := kp_set2 kk (b := w.heap.size + 1 + 1) (by omega) (.string ⟨#[]⟩) (.string ⟨#[]⟩)
  clear sr z kk sa sb
  go_wp2
  refine bodyPost_ret (v := .tuple #[.agg #[.string ⟨#[]⟩, .string ⟨#[]⟩], .bool false, .int .i64 e]) (by simp [results, Tryz.results20, go_sem, d0, d1]) rfl ?_
  exact ⟨rfl, kf⟩

set_option maxRecDepth 100000 in
set_option maxHeartbeats 4000000 in
theorem r3Meet_0 (l1 h1 l2 h2 u v : ByteArray) (t : Bool) (w : World) (qb : Ca 53 #[.agg #[.string l1, .string h1], .agg #[.string l2, .string h2]] (.int .i64 0)) (qc : Ca 69 #[.agg #[.string l1, .string h1], .agg #[.string l2, .string h2]] (.tuple #[.agg #[.string u, .string v], .bool t])) :
    Calls Tryz.prog 20 #[.agg #[.string l1, .string h1], .agg #[.string l2, .string h2]] w fun r w' => r = .returned (.tuple #[.agg #[.string u, .string v], .bool t, .int .i64 0]) ∧ Kp [] w w' := by
  unfold Ca at *
  have sa := ((SpB.made w l1 h1).alloc (.cells #[.string l2, .string h2] 24 (0, 0))).alloc (.cells #[.string ⟨#[]⟩, .string ⟨#[]⟩] 24 (0, 0))
  have sb := (SpB.made (w.alloc (.cells #[.string l1, .string h1] 24 (0, 0))) l2 h2).alloc (.cells #[.string ⟨#[]⟩, .string ⟨#[]⟩] 24 (0, 0))
  have sr := SpB.made ((w.alloc (.cells #[.string l1, .string h1] 24 (0, 0))).alloc (.cells #[.string l2, .string h2] 24 (0, 0))) ⟨#[]⟩ ⟨#[]⟩
  rw [World.size_alloc] at sb
  rw [World.size_alloc, World.size_alloc] at sr
  have kk : Kp [] w (((w.alloc (.cells #[.string l1, .string h1] 24 (0, 0))).alloc (.cells #[.string l2, .string h2] 24 (0, 0))).alloc (.cells #[.string ⟨#[]⟩, .string ⟨#[]⟩] 24 (0, 0))) := (((Kp.refl _ _).alloc _).alloc _).alloc _
  have a0 := sa.c0
  have a1 := sa.c1
  have b0 := sb.c0
  have b1 := sb.c1
  go_enter Tryz.func20, Tryz.ntmps20
  go_wp2_with fail
  with_reducible refine (qb.out _).mono ?_
  rintro r w1 ⟨rfl, k⟩
  replace sa := sa.kept k (by simp); replace sb := sb.kept k (by simp); replace sr := sr.kept k (by simp); replace kk := kk.trans k
  clear a0 a1 b0 b1 k qb
  have a0 := sa.c0; have a1 := sa.c1; have b0 := sb.c0; have b1 := sb.c1
  go_wp2_with fail
  with_reducible refine (qc.out _).mono ?_
  rintro r w2 ⟨rfl, k⟩
  have nr : w.heap.size + 1 + 1 < w2.heap.size := Nat.lt_of_lt_of_le sr.lt k.size
  replace sr := sr.kept k (by simp)
  have sn := SpB.made w2 u v
  replace kk := kk.trans k
  clear a0 a1 b0 b1 k qc
  have g0 := sn.c0; have g1 := sn.c1
  clear sn
  have x0 := sr.c0; have x1 := (sr.set1 u).c1; have y0 := sr.f 0; have y1 := (sr.set1 u).f 1
  have z := (sr.set2 u v).alloc (.cells #[.string u, .string v] 24 (0, 0))
  have d0 := z.c0; have d1 := z.c1
  have kf := (kp_set2 kk (b := w.heap.size + 1 + 1) (by omega) (.string u) (.string v)).alloc (.cells #[.string u, .string v] 24 (0, 0))
  clear sr z kk sa sb
  go_wp2
  refine bodyPost_ret (v := .tuple #[.agg #[.string u, .string v], .bool t, .int .i64 0]) (by simp [results, Tryz.results20, go_sem, d0, d1]) rfl ?_
  exact ⟨rfl, kf⟩

end Go.Proofs.YtabepobcmpmkdaaGreat

/- Meet of package interval and of the reference give the same for short texts; the law IntervalMeets. -/
namespace Go.Proofs.YtabepobcmpmkdaaGreat
open Go.RowKit
open Go.Lib (nDigits itoa decDigits)

theorem iMeet_q (l1 h1 l2 h2 : ByteArray) (a : shB l1 = true) (b : shB h1 = true) (c : shB l2 = true) (d : shB h2 = true) (V : World) (g ba bb : Nat) (hR : RE V g 0) (ha : SpB V ba l1 h1) (hb : SpB V bb l2 h2) :
    Calls Tryz.prog 65 #[.pointer (some ⟨g, 0, none⟩), .pointer (some ⟨ba, 0, none⟩), .pointer (some ⟨bb, 0, none⟩)] V fun x w' => x = .returned (.agg #[.string (grB l1 l2), .string (lsB h1 h2)]) ∧ RE w' g (kp (kp (kp (icE l1 h1) (icE l2 h2)) (qCmE l1 l2)) (qCmE h1 h2)) ∧ Kp [g] V w' :=
  imeet g ba bb l1 h1 l2 h2 _ _ (kp (icE l1 h1) (icE l2 h2)) _ _ V hR ha hb (Lib.hid fun V b0 hR hs => keep_2 g b0 l1 h1 l2 h2 V hR hs (sh_size9 a) (sh_size9 b) (sh_size9 c) (sh_size9 d))
    (Lib.hid fun V hR => k_greater g _ _ _ V hR (sh_size9 a) (sh_size9 c)) (Lib.hid fun V hR => k_less g _ _ _ V hR (sh_size9 b) (sh_size9 d))
theorem sm_mx {k : Nat} {q r : Rat} (hq : Sm k q) (hr : Sm k r) : Sm k (mxR q r) := by unfold mxR; split <;> assumption
theorem sm_mn {k : Nat} {q r : Rat} (hq : Sm k q) (hr : Sm k r) : Sm k (mnR q r) := by unfold mnR; split <;> assumption
theorem meet_both (l1 h1 l2 h2 : ByteArray) (a : shB l1 = true) (b : shB h1 = true) (c : shB l2 = true) (d : shB h2 = true) : ∃ (u v : ByteArray) (t : Bool) (E : Int),
    Ca 19 #[.agg #[.string l1, .string h1], .agg #[.string l2, .string h2]] (.tuple #[.agg #[.string u, .string v], .bool t, .int .i64 E]) ∧ Ca 20 #[.agg #[.string l1, .string h1], .agg #[.string l2, .string h2]] (.tuple #[.agg #[.string u, .string v], .bool t, .int .i64 E]) := by
  have qb := r3both_c a b c d
  have bad : kp (icE l1 h1) (icE l2 h2) ≠ 0 → ∃ (u v : ByteArray) (t : Bool) (E : Int),
      Ca 19 #[.agg #[.string l1, .string h1], .agg #[.string l2, .string h2]] (.tuple #[.agg #[.string u, .string v], .bool t, .int .i64 E]) ∧ Ca 20 #[.agg #[.string l1, .string h1], .agg #[.string l2, .string h2]] (.tuple #[.agg #[.string u, .string v], .bool t, .int .i64 E]) := fun he =>
    ⟨⟨#[]⟩, ⟨#[]⟩, false, kp (icE l1 h1) (icE l2 h2), Lib.hid fun W => iMeet_e l1 h1 l2 h2 _ _ _ (by simpa using he) W fun V g ba bb hR ha hb => by
      have := iMeet_q l1 h1 l2 h2 a b c d V g ba bb hR ha hb
      rw [kpI_ne he, kpI_ne he] at this
      exact this, Lib.hid fun W => r3Meet_e l1 h1 l2 h2 _ (by simpa using he) W qb⟩
  rcases ic_cases a b with e | ⟨e, q1, r1, rfl, rfl, hq1, hr1, _⟩
  · exact bad (by rw [kpI_ne e]; exact e)
  · rcases ic_cases c d with f | ⟨f, q2, r2, rfl, rfl, hq2, hr2, _⟩
    · exact bad (by rw [e, kp_zero]; exact f)
    · have v2 := (cmp_v hq1 hq2 (by omega)).2
      have v4 := (cmp_v hr1 hr2 (by omega)).2
      have v1 := (lsB_v hq1 hq2 (by omega)).2
      have v3 := (lsB_v hr1 hr2 (by omega)).1
      rw [e, f, kp_zero] at qb
      have hu := sm_mx hq1 hq2
      have hv := sm_mn hr1 hr2
      have hi := icE_v hu hv (by omega)
      have q : ∀ (V : World) (g ba bb : Nat), RE V g 0 → SpB V ba (RS q1) (RS r1) → SpB V bb (RS q2) (RS r2) → Calls Tryz.prog 65 #[.pointer (some ⟨g, 0, none⟩), .pointer (some ⟨ba, 0, none⟩), .pointer (some ⟨bb, 0, none⟩)] V fun x w' => x = .returned (.agg #[.string (RS (mxR q1 q2)), .string (RS (mnR r1 r2))]) ∧ RE w' g 0 ∧ Kp [g] V w' := fun V g ba bb hR ha hb => by
        have := iMeet_q _ _ _ _ a b c d V g ba bb hR ha hb
        rw [e, f, v1, v2, v3, v4] at this
        simpa only [kp_zero] using this
      have qc : Ca 69 #[.agg #[.string (RS q1), .string (RS r1)], .agg #[.string (RS q2), .string (RS r2)]] _ := Lib.hid fun W => r3Common _ _ _ _ _ _ _ W (more_c hq1 hq2 (by omega)) (less_c hr1 hr2 (by omega)) (ord2_c hu hv (by omega))
      have qk : Hid (∀ W : World, Calls Tryz.prog 68 #[.agg #[.string (RS (mxR q1 q2)), .string (RS (mnR r1 r2))]] W fun r w' => r = .returned (.int .i64 (icE (RS (mxR q1 q2)) (RS (mnR r1 r2)))) ∧ Kp [] W w') := Lib.hid fun W => icheck_any _ _ W (hu.ok (by omega)).size9 (hv.ok (by omega)).size9
      rw [hi] at qk
      by_cases hlt : mnR r1 r2 < mxR q1 q2
      · rw [if_pos hlt] at qk
        rw [if_pos (cmR_pos.2 hlt), if_pos (cmR_pos.2 hlt), decide_eq_true (cmR_pos.2 hlt)] at qc
        exact ⟨_, _, _, _, Lib.hid fun W => iMeet_9 _ _ _ _ _ _ W q qk, Lib.hid fun W => r3Meet_0 _ _ _ _ _ _ _ W qb qc⟩
      · rw [if_neg hlt] at qk
        have hn : ¬ 0 < cmR (mxR q1 q2) (mnR r1 r2) := fun k => hlt (cmR_pos.1 k)
        rw [if_neg hn, if_neg hn, decide_eq_false hn] at qc
        exact ⟨_, _, _, _, Lib.hid fun W => iMeet_0 _ _ _ _ _ _ W q qk, Lib.hid fun W => r3Meet_0 _ _ _ _ _ _ _ W qb qc⟩

set_option maxRecDepth 100000 in
set_option maxHeartbeats 8000000 in
theorem meet_1 (l1 h1 l2 h2 x : ByteArray) (q1 : Ca 10 #[.agg #[.string l1, .string h1]] (.bool false)) (w : World) :
    Calls Tryz.prog 4 #[.agg #[.string l1, .string h1], .agg #[.string l2, .string h2], .string x] w fun r w' => r = .returned (.bool true) ∧ Kp [] w w' := by
  have qw := Lib.hid awake3
  unfold Ca at *
  have sa := (SpB.made w l1 h1).alloc (.cells #[.string l2, .string h2] 24 (0, 0))
  have sb := SpB.made (w.alloc (.cells #[.string l1, .string h1] 24 (0, 0))) l2 h2
  rw [World.size_alloc] at sb
  have kk : Kp [] w ((w.alloc (.cells #[.string l1, .string h1] 24 (0, 0))).alloc (.cells #[.string l2, .string h2] 24 (0, 0))) := ((Kp.refl _ _).alloc _).alloc _
  have a0 := sa.c0
  have a1 := sa.c1
  have b0 := sb.c0
  have b1 := sb.c1
  go_enter Tryz.func4, Tryz.ntmps4
  go_wp2_with fail
  with_reducible refine (q1.out _).mono ?_
  rintro r w1 ⟨rfl, k⟩
  replace sa := sa.kept k (by simp)
  replace sb := sb.kept k (by simp)
  replace kk := kk.trans k
  clear a0 a1 b0 b1 k q1
  have a0 := sa.c0; have a1 := sa.c1; have b0 := sb.c0; have b1 := sb.c1
  clear a0 a1 b0 b1 sa sb
  go_wp2_with fail
  with_reducible refine (qw.out _).mono ?_
  rintro r w9 ⟨rfl, k⟩
  replace kk := kk.trans k
  clear k qw
  go_wp2
  go_ret
  exact ⟨rfl, kk⟩

set_option maxRecDepth 100000 in
set_option maxHeartbeats 8000000 in
theorem meet_2 (l1 h1 l2 h2 x : ByteArray) (q1 : Ca 10 #[.agg #[.string l1, .string h1]] (.bool true)) (q2 : Ca 10 #[.agg #[.string l2, .string h2]] (.bool false)) (w : World) :
    Calls Tryz.prog 4 #[.agg #[.string l1, .string h1], .agg #[.string l2, .string h2], .string x] w fun r w' => r = .returned (.bool true) ∧ Kp [] w w' := by
  have qw := Lib.hid awake3
  unfold Ca at *
  have sa := (SpB.made w l1 h1).alloc (.cells #[.string l2, .string h2] 24 (0, 0))
  have sb := SpB.made (w.alloc (.cells #[.string l1, .string h1] 24 (0, 0))) l2 h2
  rw [World.size_alloc] at sb
  have kk : Kp [] w ((w.alloc (.cells #[.string l1, .string h1] 24 (0, 0))).alloc (.cells #[.string l2, .string h2] 24 (0, 0))) := ((Kp.refl _ _).alloc _).alloc _
  have a0 := sa.c0
  have a1 := sa.c1
  have b0 := sb.c0
  have b1 := sb.c1
  go_enter Tryz.func4, Tryz.ntmps4
  go_wp2_with fail
  with_reducible refine (q1.out _).mono ?_
  rintro r w1 ⟨rfl, k⟩
  replace sa := sa.kept k (by simp)
  replace sb := sb.kept k (by simp)
  replace kk := kk.trans k
  clear a0 a1 b0 b1 k q1
  have a0 := sa.c0; have a1 := sa.c1; have b0 := sb.c0; have b1 := sb.c1
  go_wp2_with fail
  with_reducible refine (q2.out _).mono ?_
  rintro r w2 ⟨rfl, k⟩
  replace sa := sa.kept k (by simp)
  replace sb := sb.kept k (by simp)
  replace kk := kk.trans k
  clear a0 a1 b0 b1 k q2
  have a0 := sa.c0; have a1 := sa.c1; have b0 := sb.c0; have b1 := sb.c1
  clear a0 a1 b0 b1 sa sb
  go_wp2_with fail
  with_reducible refine (qw.out _).mono ?_
  rintro r w9 ⟨rfl, k⟩
  replace kk := kk.trans k
  clear k qw
  go_wp2
  go_ret
  exact ⟨rfl, kk⟩

set_option maxRecDepth 100000 in
set_option maxHeartbeats 8000000 in
theorem meet_3 (l1 h1 l2 h2 x : ByteArray) (q1 : Ca 10 #[.agg #[.string l1, .string h1]] (.bool true)) (q2 : Ca 10 #[.agg #[.string l2, .string h2]] (.bool true)) (q3 : Ca 11 #[.string x] (.bool false)) (w : World) :
    Calls Tryz.prog 4 #[.agg #[.string l1, .string h1], .agg #[.string l2, .string h2], .string x] w fun r w' => r = .returned (.bool true) ∧ Kp [] w w' := by
  have qw := Lib.hid awake3
  unfold Ca at *
  have sa := (SpB.made w l1 h1).alloc (.cells #[.string l2, .string h2] 24 (0, 0))
  have sb := SpB.made (w.alloc (.cells #[.string l1, .string h1] 24 (0, 0))) l2 h2
  rw [World.size_alloc] at sb
  have kk : Kp [] w ((w.alloc (.cells #[.string l1, .string h1] 24 (0, 0))).alloc (.cells #[.string l2, .string h2] 24 (0, 0))) := ((Kp.refl _ _).alloc _).alloc _
  have a0 := sa.c0
  have a1 := sa.c1
  have b0 := sb.c0
  have b1 := sb.c1
  go_enter Tryz.func4, Tryz.ntmps4
  go_wp2_with fail
  with_reducible refine (q1.out _).mono ?_
  rintro r w1 ⟨rfl, k⟩
  replace sa := sa.kept k (by simp)
  replace sb := sb.kept k (by simp)
  replace kk := kk.trans k
  clear a0 a1 b0 b1 k q1
  have a0 := sa.c0; have a1 := sa.c1; have b0 := sb.c0; have b1 := sb.c1
  go_wp2_with fail
  with_reducible refine (q2.out _).mono ?_
  rintro r w2 ⟨rfl, k⟩
  replace sa := sa.kept k (by simp)
  replace sb := sb.kept k (by simp)
  replace kk := kk.trans k
  clear a0 a1 b0 b1 k q2
  have a0 := sa.c0; have a1 := sa.c1; have b0 := sb.c0; have b1 := sb.c1
  go_wp2_with fail
  with_reducible refine (q3.out _).mono ?_
  rintro r w3 ⟨rfl, k⟩
  replace sa := sa.kept k (by simp)
  replace sb := sb.kept k (by simp)
  replace kk := kk.trans k
  clear a0 a1 b0 b1 k q3
  have a0 := sa.c0; have a1 := sa.c1; have b0 := sb.c0; have b1 := sb.c1
  clear a0 a1 b0 b1 sa sb
  go_wp2_with fail
  with_reducible refine (qw.out _).mono ?_
  rintro r w9 ⟨rfl, k⟩
  replace kk := kk.trans k
  clear k qw
  go_wp2
  go_ret
  exact ⟨rfl, kk⟩

set_option maxRecDepth 100000 in
set_option maxHeartbeats 8000000 in
theorem meet_4 (l1 h1 l2 h2 x : ByteArray) (u1 v1 u2 v2 : ByteArray) (t1 t3 t4 : Bool) (E1 E2 E3 E4 : Int) (q1 : Ca 10 #[.agg #[.string l1, .string h1]] (.bool true)) (q2 : Ca 10 #[.agg #[.string l2, .string h2]] (.bool true)) (q3 : Ca 11 #[.string x] (.bool true)) (p1 : Ca 19 #[.agg #[.string l1, .string h1], .agg #[.string l2, .string h2]] (.tuple #[.agg #[.string u1, .string v1], .bool t1, .int .i64 E1])) (p2 : Ca 20 #[.agg #[.string l1, .string h1], .agg #[.string l2, .string h2]] (.tuple #[.agg #[.string u1, .string v1], .bool t1, .int .i64 E1])) (p3 : Ca 21 #[.agg #[.string l1, .string h1], .agg #[.string l2, .string h2]] (.tuple #[.agg #[.string u2, .string v2], .int .i64 E2])) (p4 : Ca 22 #[.agg #[.string l1, .string h1], .agg #[.string l2, .string h2]] (.tuple #[.agg #[.string u2, .string v2], .int .i64 E2])) (p5 : Ca 23 #[.agg #[.string l1, .string h1], .string x] (.tuple #[.bool t3, .int .i64 E3])) (p6 : Ca 24 #[.agg #[.string l1, .string h1], .string x] (.tuple #[.bool t3, .int .i64 E3])) (p7 : Ca 25 #[.agg #[.string l1, .string h1], .agg #[.string l2, .string h2]] (.tuple #[.bool t4, .int .i64 E4])) (p8 : Ca 26 #[.agg #[.string l1, .string h1], .agg #[.string l2, .string h2]] (.tuple #[.bool t4, .int .i64 E4])) (w : World) :
    Calls Tryz.prog 4 #[.agg #[.string l1, .string h1], .agg #[.string l2, .string h2], .string x] w fun r w' => r = .returned (.bool true) ∧ Kp [] w w' := by
  have qw := Lib.hid awake3
  unfold Ca at *
  have sa := (SpB.made w l1 h1).alloc (.cells #[.string l2, .string h2] 24 (0, 0))
  have sb := SpB.made (w.alloc (.cells #[.string l1, .string h1] 24 (0, 0))) l2 h2
  rw [World.size_alloc] at sb
  have kk : Kp [] w ((w.alloc (.cells #[.string l1, .string h1] 24 (0, 0))).alloc (.cells #[.string l2, .string h2] 24 (0, 0))) := ((Kp.refl _ _).alloc _).alloc _
  have a0 := sa.c0
  have a1 := sa.c1
  have b0 := sb.c0
  have b1 := sb.c1
  go_enter Tryz.func4, Tryz.ntmps4
  go_wp2_with fail
  with_reducible refine (q1.out _).mono ?_
  rintro r w1 ⟨rfl, k⟩
  replace sa := sa.kept k (by simp)
  replace sb := sb.kept k (by simp)
  replace kk := kk.trans k
  clear a0 a1 b0 b1 k q1
  have a0 := sa.c0; have a1 := sa.c1; have b0 := sb.c0; have b1 := sb.c1
  go_wp2_with fail
  with_reducible refine (q2.out _).mono ?_
  rintro r w2 ⟨rfl, k⟩
  replace sa := sa.kept k (by simp)
  replace sb := sb.kept k (by simp)
  replace kk := kk.trans k
  clear a0 a1 b0 b1 k q2
  have a0 := sa.c0; have a1 := sa.c1; have b0 := sb.c0; have b1 := sb.c1
  go_wp2_with fail
  with_reducible refine (q3.out _).mono ?_
  rintro r w3 ⟨rfl, k⟩
  replace sa := sa.kept k (by simp)
  replace sb := sb.kept k (by simp)
  replace kk := kk.trans k
  clear a0 a1 b0 b1 k q3
  have a0 := sa.c0; have a1 := sa.c1; have b0 := sb.c0; have b1 := sb.c1
  have e1 : ∀ W : World, (Op.equalIn 10000 24 (.agg #[.string u1, .string v1]) (.agg #[.string u1, .string v1])).run Tryz.prog W = .ok true W := fun W => eqSp_same _ _ W
  have e2 : ∀ W : World, (Op.equalIn 10000 24 (.agg #[.string u2, .string v2]) (.agg #[.string u2, .string v2])).run Tryz.prog W = .ok true W := fun W => eqSp_same _ _ W
  go_wp2_with fail
  generalize hA : w.heap.size = A at *
  with_reducible refine (p1.out _).mono ?_
  rintro r w4 ⟨rfl, k⟩
  replace sa := sa.kept k (by simp)
  replace sb := sb.kept k (by simp)
  replace kk := kk.trans k
  clear a0 a1 b0 b1 k p1
  have hc0 := kk.size
  rw [hA] at hc0
  have nAC := Nat.ne_of_lt sa.lt
  have nBC := Nat.ne_of_lt sb.lt
  replace sa := sa.alloc (.cells #[.string u1, .string v1] 24 (0, 0))
  replace sb := sb.alloc (.cells #[.string u1, .string v1] 24 (0, 0))
  have sc := SpB.made w4 u1 v1
  replace kk := kk.alloc (.cells #[.string u1, .string v1] 24 (0, 0))
  have a0 := sa.c0; have a1 := sa.c1; have b0 := sb.c0; have b1 := sb.c1
  go_wp2_with fail
  generalize hC : w4.heap.size = C at *
  with_reducible refine (p2.out _).mono ?_
  rintro r w5 ⟨rfl, k⟩
  replace sa := sa.kept k (by simp); replace sb := sb.kept k (by simp); replace sc := sc.kept k (by simp)
  replace kk := kk.trans k
  clear a0 a1 b0 b1 k p2
  have hd0 := kk.size
  rw [hA] at hd0
  have nAD := Nat.ne_of_lt sa.lt
  have nBD := Nat.ne_of_lt sb.lt
  have nCD := Nat.ne_of_lt sc.lt
  replace sa := sa.alloc (.cells #[.string u1, .string v1] 24 (0, 0))
  replace sb := sb.alloc (.cells #[.string u1, .string v1] 24 (0, 0))
  replace sc := sc.alloc (.cells #[.string u1, .string v1] 24 (0, 0))
  have sd := SpB.made w5 u1 v1
  replace kk := kk.alloc (.cells #[.string u1, .string v1] 24 (0, 0))
  have c0 := sc.c0; have c1 := sc.c1; have d0 := sd.c0; have d1 := sd.c1
  have a0 := sa.c0; have a1 := sa.c1; have b0 := sb.c0; have b1 := sb.c1
  go_wp2_with fail
  clear c0 c1 d0 d1
  generalize hD : w5.heap.size = D at *
  with_reducible refine (p3.out _).mono ?_
  rintro r w6 ⟨rfl, k⟩
  replace sa := sa.kept k (by simp); replace sb := sb.kept k (by simp); replace sc := sc.kept k (by simp); replace sd := sd.kept k (by simp)
  replace kk := kk.trans k
  clear a0 a1 b0 b1 k p3 e1
  have f0 := sc.f 0; have f1 := (sc.set1 u2).f 1; have c0 := sc.c0; have c1 := (sc.set1 u2).c1
  replace sa := sa.far2 nAC.symm (.string u2) (.string v2)
  replace sb := sb.far2 nBC.symm (.string u2) (.string v2)
  replace sd := sd.far2 nCD (.string u2) (.string v2)
  replace sc := sc.set2 u2 v2
  replace kk := kp_at2s kk (by rw [hA]; exact hc0) (.string u2) (.string v2)
  have a0 := sa.c0; have a1 := sa.c1; have b0 := sb.c0; have b1 := sb.c1
  go_wp2_with fail
  with_reducible refine (p4.out _).mono ?_
  rintro r w7 ⟨rfl, k⟩
  replace sa := sa.kept k (by simp); replace sb := sb.kept k (by simp); replace sc := sc.kept k (by simp); replace sd := sd.kept k (by simp)
  replace kk := kk.trans k
  clear a0 a1 b0 b1 f0 f1 c0 c1 k p4
  have f0 := sd.f 0; have f1 := (sd.set1 u2).f 1; have c0 := sd.c0; have c1 := (sd.set1 u2).c1
  replace sa := sa.far2 nAD.symm (.string u2) (.string v2)
  replace sb := sb.far2 nBD.symm (.string u2) (.string v2)
  replace sc := sc.far2 nCD.symm (.string u2) (.string v2)
  replace sd := sd.set2 u2 v2
  replace kk := kp_at2s kk (by rw [hA]; exact hd0) (.string u2) (.string v2)
  have a0 := sa.c0; have a1 := sa.c1; have b0 := sb.c0; have b1 := sb.c1
  have x0 := sc.c0; have x1 := sc.c1; have y0 := sd.c0; have y1 := sd.c1
  go_wp2_with fail
  clear x0 x1 y0 y1 e2 f0 f1 c0 c1 sc sd
  with_reducible refine (p5.out _).mono ?_
  rintro r w8 ⟨rfl, k⟩
  replace sa := sa.kept k (by simp)
  replace sb := sb.kept k (by simp)
  replace kk := kk.trans k
  clear a0 a1 b0 b1 k p5
  have a0 := sa.c0; have a1 := sa.c1; have b0 := sb.c0; have b1 := sb.c1
  go_wp2_with fail
  with_reducible refine (p6.out _).mono ?_
  rintro r w10 ⟨rfl, k⟩
  replace sa := sa.kept k (by simp)
  replace sb := sb.kept k (by simp)
  replace kk := kk.trans k
  clear a0 a1 b0 b1 k p6
  have a0 := sa.c0; have a1 := sa.c1; have b0 := sb.c0; have b1 := sb.c1
  go_wp2_with fail
  with_reducible refine (p7.out _).mono ?_
  rintro r w11 ⟨rfl, k⟩
  replace sa := sa.kept k (by simp)
  replace sb := sb.kept k (by simp)
  replace kk := kk.trans k
  clear a0 a1 b0 b1 k p7
  have a0 := sa.c0; have a1 := sa.c1; have b0 := sb.c0; have b1 := sb.c1
  go_wp2_with fail
  with_reducible refine (p8.out _).mono ?_
  rintro r w12 ⟨rfl, k⟩
  replace sa := sa.kept k (by simp)
  replace sb := sb.kept k (by simp)
  replace kk := kk.trans k
  clear a0 a1 b0 b1 k p8
  clear sa sb
  go_wp2_with fail
  with_reducible refine (qw.out _).mono ?_
  rintro r w9 ⟨rfl, k⟩
  replace kk := kk.trans k
  clear k qw
  go_wp2
  go_ret
  exact ⟨rfl, kk⟩

theorem meets3 (l1 h1 l2 h2 x : ByteArray) (s1 : l1.size ≤ 9223372036854775807) (s2 : h1.size ≤ 9223372036854775807) (s3 : l2.size ≤ 9223372036854775807) (s4 : h2.size ≤ 9223372036854775807) (s5 : x.size ≤ 9223372036854775807) (w : World) :
    Calls Tryz.prog 4 #[.agg #[.string l1, .string h1], .agg #[.string l2, .string h2], .string x] w fun r w' => r = .returned (.bool true) ∧ Kp [] w w' := by
  have q1 := r3Short_c s1 s2
  have q2 := r3Short_c s3 s4
  have q3 := short_c s5
  cases hA : (shB l1 && shB h1) with
  | false => rw [hA] at q1; exact meet_1 _ _ _ _ _ q1 w
  | true =>
    rw [hA] at q1
    cases hB : (shB l2 && shB h2) with
    | false => rw [hB] at q2; exact meet_2 _ _ _ _ _ q1 q2 w
    | true =>
      rw [hB] at q2
      cases hC : shB x with
      | false => rw [hC] at q3; exact meet_3 _ _ _ _ _ q1 q2 q3 w
      | true =>
        rw [hC] at q3
        rw [Bool.and_eq_true] at hA hB
        obtain ⟨u1, v1, t1, E1, p1, p2⟩ := meet_both l1 h1 l2 h2 hA.1 hA.2 hB.1 hB.2
        obtain ⟨u2, v2, E2, p3, p4⟩ := hull_both l1 h1 l2 h2 hA.1 hA.2 hB.1 hB.2
        obtain ⟨t3, E3, p5, p6⟩ := contains_both l1 h1 x hA.1 hA.2 hC
        obtain ⟨t4, E4, p7, p8⟩ := within_both l1 h1 l2 h2 hA.1 hA.2 hB.1 hB.2
        exact meet_4 _ _ _ _ _ _ _ _ _ _ _ _ _ _ _ _ q1 q2 q3 p1 p2 p3 p4 p5 p6 p7 p8 w
end Go.Proofs.YtabepobcmpmkdaaGreat

/- Reference of layer 3: Few; the laws' own function right. -/
namespace Go.Proofs.YtabepobcmpmkdaaGreat
open Go.RowKit
open Go.Lib (nDigits itoa decDigits)

def stB (t : Tx) : Bool := shB t.1 && shB t.2
def fwB (l : List Tx) : Bool := if 8 < l.length then decide (256 < l.length) && decide (l.length ≤ 512) else l.all stB
/-- one span is right and has short ends -/
def rtB (t : Tx) : Bool := decide (icE t.1 t.2 = 0) && decide (t.1.size ≤ 15) && decide (t.2.size ≤ 15)
def rgB (l : List Tx) : Bool := decide (l.length ≤ 8) && l.all stB && l.all rtB
theorem all_gL {l : List Tx} {f : Tx → Bool} : l.all f = true ↔ ∀ j, j < l.length → f (gL l j) = true := by
  rw [List.all_eq_true]
  constructor
  · intro h j hj; rw [gL_eq hj]; exact h _ (List.getElem_mem hj)
  · intro h x hx
    obtain ⟨j, hj, rfl⟩ := List.mem_iff_getElem.1 hx
    have := h j hj
    rwa [gL_eq hj] at this
theorem all_gL_no {l : List Tx} {f : Tx → Bool} {j : Nat} (hj : j < l.length) (h : f (gL l j) = false) : l.all f = false := by
  cases e : l.all f with
  | false => rfl
  | true => have := all_gL.1 e j hj; rw [h] at this; cases this

set_option maxRecDepth 100000 in
set_option maxHeartbeats 4000000 in
theorem r3Few_big (p : Option Addr) (n c : Nat) (w : World) (hn : 8 < n) : Calls Tryz.prog 27 #[.slice p n c] w fun r w' => r = .returned (.bool (decide (256 < n) && decide (n ≤ 512))) ∧ Kp [] w w' := by
  have hn' : (8 : Int) < (n : Int) := by omega
  have kk := Kp.refl [] w
  by_cases h1 : 256 < n
  · have h1' : (256 : Int) < (n : Int) := by omega
    by_cases h2 : n ≤ 512
    · have h2' : (n : Int) ≤ 512 := by omega
      rw [decide_eq_true h1, decide_eq_true h2]
      clear hn h1 h2
      go_enter Tryz.func27, Tryz.ntmps27
      go_wp2
      go_ret
      exact ⟨rfl, kk⟩
    · have h2' : ¬ (n : Int) ≤ 512 := by omega
      rw [decide_eq_true h1, decide_eq_false h2]
      clear hn h1 h2
      go_enter Tryz.func27, Tryz.ntmps27
      go_wp2
      go_ret
      exact ⟨rfl, kk⟩
  · have h1' : ¬ (256 : Int) < (n : Int) := by omega
    rw [decide_eq_false h1, Bool.false_and]
    clear hn h1
    go_enter Tryz.func27, Tryz.ntmps27
    go_wp2
    go_ret
    exact ⟨rfl, kk⟩
set_option maxRecDepth 100000 in
set_option maxHeartbeats 4000000 in
theorem r3Few_small (v : Value) (l : List Tx) (e : Nat → Bool) (R : Bool) (w : World) (h : SlT w v l) (hn : l.length ≤ 8) (q : ∀ j, j < l.length → Ca 10 #[.agg #[.string (gL l j).1, .string (gL l j).2]] (.bool (e j)))
    (h1 : ∀ j, j < l.length → e j = false → R = false) (h0 : (∀ j, j < l.length → e j = true) → R = true) :
    Calls Tryz.prog 27 #[v] w fun r w' => r = .returned (.bool R) ∧ Kp [] w w' := by
  obtain ⟨p, c, g, o, rfl, hp, hc⟩ := h.op
  generalize gL l = G at *
  generalize l.length = n at *
  have HC := Lib.hid hc
  have HP := Lib.hid hp
  have Q := Lib.hid q
  have H1 := Lib.hid h1
  have H0 := Lib.hid h0
  have hn1 : ¬ (8 : Int) < (n : Int) := by omega
  have hn0 : 0 ≤ (n : Int) := by omega
  clear h hc hp q h1 h0 hn
  go_enter Tryz.func27, Tryz.ntmps27
  go_wp2_with fail
  go_loopg [3] n (fun gk s3 wr => ∃ k : Nat, s3 = .int .i64 k ∧ k + gk = n ∧ Hid (∀ i, i < k → e i = true) ∧ Kp [] w wr)
  case atStart => exact ⟨0, rfl, by omega, Lib.hid (fun _ h => by omega), Kp.refl _ _⟩
  case round =>
    obtain ⟨k, rfl, hk, hz, kk⟩ := hrel
    by_cases hlt : k < n
    · obtain rfl := HP.out (by omega)
      obtain ⟨c0, c1⟩ := HC.out k hlt wr kk
      have q := Q.out k hlt
      unfold Ca at q
      have hlt' : (k : Int) < (n : Int) := by omega
      have z1 : 0 ≤ (k : Int) := by omega
      have Hk := Lib.hid hk; have Hl := Lib.hid hlt
      have HB1 := Lib.hid (H1.out k hlt)
      clear hk hlt HC HP Q H1
      cases he : e k with
      | true =>
        rw [he] at q
        have He := Lib.hid he
        clear he HB1
        generalize (G k).1 = lo at *
        generalize (G k).2 = hi at *
        go_wp2_with fail
        with_reducible refine (q.out _).mono ?_
        rintro r w1 ⟨rfl, k1⟩
        go_wp2
        have hk := Hk.out; have hlt := Hl.out
        go_roundg (gk - 1)
        case measure => omega
        case rel => exact ⟨k + 1, by go_num, by omega, Lib.hid (fun i h => if e : i = k then (by rw [e]; exact He.out) else hz.out i (by omega)), kk.trans k1⟩
      | false =>
        rw [he] at q
        have HR := Lib.hid (HB1.out he)
        clear he HB1
        generalize (G k).1 = lo at *
        generalize (G k).2 = hi at *
        go_wp2_with fail
        with_reducible refine (q.out _).mono ?_
        rintro r w1 ⟨rfl, k1⟩
        go_wp2
        go_ret
        exact ⟨by rw [HR.out]; rfl, kk.trans k1⟩
    · have hlt' : ¬ (k : Int) < (n : Int) := by omega
      have HR := Lib.hid (H0.out (fun i h => hz.out i (by omega)))
      clear hlt hk
      go_wp2
      go_ret
      exact ⟨by rw [HR.out]; rfl, kk⟩
theorem r3Few_any (v : Value) (l : List Tx) (w : World) (h : SlT w v l) (hs : ∀ j, j < l.length → (gL l j).1.size ≤ 9223372036854775807 ∧ (gL l j).2.size ≤ 9223372036854775807) :
    Calls Tryz.prog 27 #[v] w fun r w' => r = .returned (.bool (fwB l)) ∧ Kp [] w w' := by
  by_cases h8 : 8 < l.length
  · obtain ⟨p, c, rfl, _⟩ := h
    unfold fwB
    rw [if_pos h8]
    exact r3Few_big p _ c w h8
  · have e : fwB l = l.all stB := if_neg h8
    rw [e]
    exact r3Few_small v l (fun j => stB (gL l j)) _ w h (by omega) (fun j hj => r3Short_c (hs j hj).1 (hs j hj).2) (fun j hj hf => all_gL_no hj hf) (fun ha => all_gL.2 ha)

/-- the parts of rgB that right looks at -/
theorem rg_few {l : List Tx} (h : fwB l = false) : rgB l = false := by
  unfold rgB fwB at *
  by_cases h8 : 8 < l.length
  · rw [decide_eq_false (by omega)]; rfl
  · rw [if_neg h8] at h; rw [h]; simp
theorem rg_long {l : List Tx} (h : 8 < l.length) : rgB l = false := by unfold rgB; rw [decide_eq_false (by omega)]; rfl
theorem rg_one {l : List Tx} {i : Nat} (hi : i < l.length) (h : rtB (gL l i) = false) : rgB l = false := by unfold rgB; rw [all_gL_no hi h]; simp
theorem few_st {l : List Tx} (h : fwB l = true) (h8 : ¬ 8 < l.length) {i : Nat} (hi : i < l.length) : shB (gL l i).1 = true ∧ shB (gL l i).2 = true := by
  unfold fwB at h
  rw [if_neg h8] at h
  have := all_gL.1 h i hi
  unfold stB at this
  simpa using this
theorem rg_all {l : List Tx} (h : fwB l = true) (h8 : ¬ 8 < l.length) (ha : ∀ i, i < l.length → rtB (gL l i) = true) : rgB l = true := by
  unfold fwB at h
  rw [if_neg h8] at h
  unfold rgB
  rw [h, decide_eq_true (by omega), all_gL.2 ha]; rfl

set_option maxRecDepth 100000 in
set_option maxHeartbeats 8000000 in
theorem right3_any (g o c m : Nat) (V : Nat → Value) (Lf : Nat → List Tx) (R : Bool) (w : World) (hm : m ≤ 4)
    (hc : ∀ j, j < m → ∀ W, Kp [] w W → W.cell? ⟨g, o + j, none⟩ = some (V j)) (hs : ∀ j, j < m → SlT w (V j) (Lf j))
    (hz : ∀ j, j < m → ∀ i, i < (Lf j).length → (gL (Lf j) i).1.size ≤ 9223372036854775807 ∧ (gL (Lf j) i).2.size ≤ 9223372036854775807)
    (h1 : ∀ j, j < m → rgB (Lf j) = false → R = false) (h0 : (∀ j, j < m → rgB (Lf j) = true) → R = true) :
    Calls Tryz.prog 41 #[.slice (some ⟨g, o, none⟩) m c] w fun r w' => r = .returned (.bool R) ∧ Kp [] w w' := by
  have HC := Lib.hid hc
  have HS := Lib.hid hs
  have HZ := Lib.hid hz
  have H1 := Lib.hid h1
  have H0 := Lib.hid h0
  have hm0 : 0 ≤ (m : Int) := by omega
  have hm1 : (m : Int) ≤ 4 := by omega
  clear hc hs hz h1 h0 hm
  go_enter Tryz.func41, Tryz.ntmps41
  go_wp2_with fail
  go_loopg [9] m (fun gk s9 wr => ∃ k : Nat, s9 = .int .i64 k ∧ k + gk = m ∧ Hid (∀ i, i < k → rgB (Lf i) = true) ∧ Kp [] w wr)
  case atStart => exact ⟨0, rfl, by omega, Lib.hid (fun _ h => by omega), Kp.refl _ _⟩
  case round =>
    rename World => wo
    rename Nat => g1
    obtain ⟨k, rfl, hk, hdone, kk⟩ := hrel
    by_cases hlt : k < m
    · have cV := HC.out k hlt wo kk
      have sV := (HS.out k hlt).kp kk
      have qf := Lib.hid (r3Few_any (V k) (Lf k) wo sV (HZ.out k hlt))
      have HB1 := Lib.hid (H1.out k hlt)
      have hlt' : (k : Int) < (m : Int) := by omega
      have z1 : 0 ≤ (k : Int) := by omega
      have Hk := Lib.hid hk; have Hl := Lib.hid hlt
      have HDk := Lib.hid (fun (h : rgB (Lf k) = true) (i : Nat) (hi : i < k + 1) => show rgB (Lf i) = true from if e : i = k then (by rw [e]; exact h) else hdone.out i (by omega))
      clear hk hlt HC HS HZ H1
      generalize Lf k = l at *
      cases hf : fwB l with
      | false =>
        have HR := Lib.hid (HB1.out (rg_few hf))
        rw [hf] at qf
        clear hf HB1 HDk sV
        generalize V k = vk at *
        go_wp2_with fail
        with_reducible refine qf.out.mono ?_
        rintro r w1 ⟨rfl, k1⟩
        go_wp2
        go_ret
        exact ⟨by rw [HR.out]; rfl, kk.trans k1⟩
      | true =>
        rw [hf] at qf
        by_cases h8 : 8 < l.length
        · have HR := Lib.hid (HB1.out (rg_long h8))
          obtain ⟨p, cc, ev, _⟩ := sV
          rw [ev] at qf cV
          have h8' : (8 : Int) < (l.length : Int) := by omega
          clear hf HB1 HDk ev h8
          generalize l.length = n at *
          go_wp2_with fail
          with_reducible refine qf.out.mono ?_
          rintro r w1 ⟨rfl, k1⟩
          go_wp2
          go_ret
          exact ⟨by rw [HR.out]; rfl, kk.trans k1⟩
        · have HST := Lib.hid (fun i (hi : i < l.length) => few_st hf h8 hi)
          have HA := Lib.hid (fun ha => HDk.out (rg_all hf h8 ha))
          have HN := Lib.hid (fun i (hi : i < l.length) hr => HB1.out (rg_one hi hr))
          obtain ⟨p, cc, gg, oo, ev, hp, hcc⟩ := sV.op
          rw [ev] at qf cV
          have HCC := Lib.hid hcc
          have HP := Lib.hid hp
          have h8' : ¬ (8 : Int) < (l.length : Int) := by omega
          have hn0 : 0 ≤ (l.length : Int) := by omega
          clear hf HB1 HDk ev h8 hcc hp sV
          generalize gL l = G at *
          generalize l.length = n at *
          go_wp2_with fail
          with_reducible refine qf.out.mono ?_
          rintro r w1 ⟨rfl, k1⟩
          clear qf cV
          go_wp2_with fail
          go_loopg [23] n (fun gk s23 wr => ∃ i : Nat, s23 = .int .i64 i ∧ i + gk = n ∧ Hid (∀ j, j < i → rtB (G j) = true) ∧ Kp [] wo wr)
          case atStart => exact ⟨0, rfl, by omega, Lib.hid (fun _ h => by omega), k1⟩
          case round =>
            obtain ⟨i, rfl, hi, hd2, kw⟩ := hrel
            by_cases hil : i < n
            · obtain rfl := HP.out (by omega)
              obtain ⟨c0, c1⟩ := HCC.out i hil wr kw
              obtain ⟨sx, sy⟩ := HST.out i hil
              have q := Lib.hid (fun W => r3check (G i).1 (G i).2 W sx sy)
              have hil' : (i : Int) < (n : Int) := by omega
              have z2 : 0 ≤ (i : Int) := by omega
              have Hi := Lib.hid hi; have Hil := Lib.hid hil
              have HN1 := Lib.hid (HN.out i hil)
              have HR2 : Hid (rtB (G i) = (decide (icE (G i).1 (G i).2 = 0) && decide ((G i).1.size ≤ 15) && decide ((G i).2.size ≤ 15))) := Lib.hid rfl
              clear hi hil HCC HP HST HN sx sy
              generalize hrt : rtB (G i) = rt at *
              have HRT := Lib.hid hrt
              clear hrt
              generalize (G i).1 = lo at *
              generalize (G i).2 = hi at *
              have s := SpB.made wr lo hi
              have s0 := s.c0; have s1 := s.c1
              have kq := kw.alloc (.cells #[.string lo, .string hi] 24 (0, 0))
              clear kw
              by_cases he : icE lo hi = 0
              · rw [he] at q
                by_cases h15 : lo.size ≤ 15
                · have h15' : ¬ (15 : Int) < (lo.size : Int) := by omega
                  by_cases h16 : hi.size ≤ 15
                  · have h16' : ¬ (15 : Int) < (hi.size : Int) := by omega
                    have HT : Hid (rt = true) := Lib.hid (by rw [HR2.out, he, decide_eq_true h15, decide_eq_true h16]; rfl)
                    clear he h15 h16 HR2 HN1
                    go_wp2_with fail
                    with_reducible refine (q.out _).mono ?_
                    rintro r w3 ⟨rfl, k2⟩
                    have z := s.kept k2 (by simp)
                    clear s0 s1 c0 c1 s q
                    have s0 := z.c0; have s1 := z.c1
                    clear z
                    go_wp2
                    have hi2 := Hi.out; have hil := Hil.out
                    go_roundg (gk - 1)
                    case measure => omega
                    case rel => exact ⟨i + 1, by go_num, by omega, Lib.hid (fun j h => if e : j = i then (by rw [e, HRT.out]; exact HT.out) else hd2.out j (by omega)), kq.trans k2⟩
                  · have h16' : (15 : Int) < (hi.size : Int) := by omega
                    have HR : Hid (R = false) := Lib.hid (HN1.out (by rw [HR2.out, decide_eq_false h16]; simp))
                    clear he h15 h16 HR2 HN1
                    go_wp2_with fail
                    with_reducible refine (q.out _).mono ?_
                    rintro r w3 ⟨rfl, k2⟩
                    have z := s.kept k2 (by simp)
                    clear s0 s1 c0 c1 s q
                    have s0 := z.c0; have s1 := z.c1
                    clear z
                    go_wp2
                    go_ret
                    exact ⟨by rw [HR.out]; rfl, kk.trans (kq.trans k2)⟩
                · have h15' : (15 : Int) < (lo.size : Int) := by omega
                  have HR : Hid (R = false) := Lib.hid (HN1.out (by rw [HR2.out, decide_eq_false h15]; simp))
                  clear he h15 HR2 HN1
                  go_wp2_with fail
                  with_reducible refine (q.out _).mono ?_
                  rintro r w3 ⟨rfl, k2⟩
                  have z := s.kept k2 (by simp)
                  clear s0 s1 c0 c1 s q
                  have s0 := z.c0
                  clear z
                  go_wp2
                  go_ret
                  exact ⟨by rw [HR.out]; rfl, kk.trans (kq.trans k2)⟩
              · have hb : (icE lo hi != 0) = true := by simp [he]
                have HR : Hid (R = false) := Lib.hid (HN1.out (by rw [HR2.out, decide_eq_false he]; rfl))
                clear he HR2 HN1
                generalize icE lo hi = E at *
                go_wp2_with fail
                with_reducible refine (q.out _).mono ?_
                rintro r w3 ⟨rfl, k2⟩
                clear s0 s1 c0 c1 s q
                go_wp2
                go_ret
                exact ⟨by rw [HR.out]; rfl, kk.trans (kq.trans k2)⟩
            · have hil' : ¬ (i : Int) < (n : Int) := by omega
              have HD := Lib.hid (HA.out (fun j h => hd2.out j (by omega)))
              clear hil hi
              go_wp2
              have hk := Hk.out; have hlt := Hl.out
              go_roundg (g1 - 1)
              case measure => omega
              case rel => exact ⟨k + 1, by go_num, by omega, Lib.hid (HD.out), kk.trans kw⟩
    · have hlt' : ¬ (k : Int) < (m : Int) := by omega
      have HR := Lib.hid (H0.out (fun i h => hdone.out i (by omega)))
      clear hlt hk
      go_wp2
      go_ret
      exact ⟨by rw [HR.out]; rfl, kk⟩
end Go.Proofs.YtabepobcmpmkdaaGreat

/- Holds of package interval at right sets. -/
namespace Go.Proofs.YtabepobcmpmkdaaGreat
open Go.RowKit
open Go.Lib (nDigits itoa decDigits)

set_option maxRecDepth 100000 in
set_option maxHeartbeats 4000000 in
theorem iHolds_cl (g bl bx : Nat) (v : Value) (l : List Tx) (x : ByteArray) (e F : Nat → Bool) (w0 w : World) (hR : RE w g 0) (hb : SlBx w bl v) (hx : StB w bx x) (k0 : Kp [] w0 w) (sl : SlT w0 v l) (hn : l.length ≤ 1000)
    (qk : Hid (Calls Tryz.prog 84 #[.pointer (some ⟨g, 0, none⟩), v] w fun r w' => r = .returned (.bool true) ∧ RE w' g 0 ∧ Kp [g] w w'))
    (qc : Ca 74 #[.string x] (.int .i64 0))
    (qi : ∀ j, j < l.length → KC g 75 #[.pointer (some ⟨g, 0, none⟩), .agg #[.string x, .string x], .agg #[.string (gL l j).1, .string (gL l j).2]] 0 (.bool (e j)) 0)
    (hF0 : F 0 = false) (hF : ∀ j, j < l.length → F (j + 1) = (e j || F j)) :
    Calls Tryz.prog 83 #[.pointer (some ⟨g, 0, none⟩), .pointer (some ⟨bl, 0, none⟩), .pointer (some ⟨bx, 0, none⟩)] w fun r w' => r = .returned (.bool (F l.length)) ∧ RE w' g 0 ∧ Kp [g] w w' := by
  obtain ⟨p, c, gl, o, rfl, hp, hc⟩ := sl.op
  have b0 := hb.c
  have hbg := hb.ne hR
  have hxg := hx.ne hR
  have HC := Lib.hid hc
  have HP := Lib.hid hp
  have QI := Lib.hid qi
  have HF := Lib.hid hF
  have hn1 : (l.length : Int) ≤ 1000 := by omega
  have hn0 : 0 ≤ (l.length : Int) := by omega
  have K0 := Lib.hid k0
  have HR0 := Lib.hid hR
  have qq := kc_keep g 0 0
  unfold KC at qq
  unfold Ca at qc
  have t0 : Hid (Value.bool false = .bool (F 0)) := Lib.hid (by rw [hF0])
  generalize gL l = G at *
  generalize l.length = n at *
  clear hc hp qi hn sl k0 hF hF0
  go_enter Tryz.func83, Tryz.ntmps83
  go_wp2_with fail
  with_reducible refine qk.out.mono ?_
  rintro r w1 ⟨rfl, h1, k1⟩
  replace hb := hb.kept k1 (by simpa using hbg)
  replace hx := hx.kept k1 (by simpa using hxg)
  clear b0 qk hR
  have x0 := hx.c
  go_wp2_with fail
  with_reducible refine (qc.out _).mono ?_
  rintro r w2 ⟨rfl, k2⟩
  have h2 := h1.kept k2 (by simp)
  have q3 := Lib.hid (qq.out _ h2)
  replace hb := hb.kept k2 (by simp)
  replace hx := hx.kept k2 (by simp)
  have kk := k1.trans (k2.mono (fun _ h => by cases h))
  clear x0 h1 k1 k2 qc qq h2
  go_wp2_with fail
  with_reducible refine q3.out.mono ?_
  rintro r w3 ⟨rfl, h3, k3⟩
  replace hb := hb.kept k3 (by simpa using hbg)
  replace hx := hx.kept k3 (by simpa using hxg)
  replace kk := kk.trans k3
  have ke : kp 0 0 = 0 := rfl
  clear k3 q3
  have b0 := hb.c
  go_wp2_with fail
  clear b0
  go_loopg [5, 18] n (fun gk s5 s18 wr => ∃ k : Nat, s18 = .int .i64 k ∧ k + gk = n ∧ s5 = .bool (F k) ∧ RE wr g 0 ∧ StB wr bx x ∧ Kp [g] w wr)
  case atStart => exact ⟨0, rfl, by omega, t0.out, h3, hx, kk⟩
  case round =>
    clear kk h3 hx hb t0 ke
    obtain ⟨k, rfl, hk, rfl, hR, hx, kk⟩ := hrel
    by_cases hlt : k < n
    · obtain rfl := HP.out (by omega)
      have kr := K0.out.trans (kp_same_keeper kk HR0.out hR)
      obtain ⟨c0, c1⟩ := HC.out k hlt wr kr
      have r1 := QI.out k hlt
      have hf := HF.out k hlt
      unfold KC at r1
      have hlt' : (k : Int) < (n : Int) := by omega
      have z1 : 0 ≤ (k : Int) := by omega
      have Hk := Lib.hid hk; have Hl := Lib.hid hlt
      have s := SpB.made wr (G k).1 (G k).2
      have s0 := s.c0
      have s1 := s.c1
      have hx2 := hx.kept (L := []) (w' := wr.alloc (.cells #[.string (G k).1, .string (G k).2] 24 (0, 0))) ((Kp.refl _ _).alloc _) (by simp)
      have x0 := hx2.c
      have ka := kk.alloc (.cells #[.string (G k).1, .string (G k).2] 24 (0, 0))
      have ra := hR.alloc (.cells #[.string (G k).1, .string (G k).2] 24 (0, 0))
      clear hk hlt HC HP QI HF hR kk kr
      generalize (G k).1 = lo at *
      generalize (G k).2 = hi at *
      generalize hT1 : F (k + 1) = t1 at *
      have HT1 := Lib.hid hT1
      clear hT1
      generalize F k = fk at *
      cases he : e k with
      | true =>
        rw [he] at r1 hf
        rw [Bool.true_or] at hf
        have HE := Lib.hid hf
        clear he hf
        go_wp2_with fail
        with_reducible refine (r1.out _ ra).mono ?_
        rintro y w4 ⟨rfl, h4, k4⟩
        have HH := Lib.hid h4
        have hx4 := Lib.hid (hx2.kept k4 (by simpa using hxg))
        have kf := ka.trans k4
        clear s s0 s1 x0 c0 c1 r1 ra h4 k4 hx hx2 ka
        go_wp2
        have hk := Hk.out; have hlt := Hl.out
        go_roundg (gk - 1)
        case measure => omega
        case rel => exact ⟨k + 1, by go_num, by omega, by rw [HT1.out, HE.out], HH.out, hx4.out, kf⟩
      | false =>
        rw [he] at r1 hf
        rw [Bool.false_or] at hf
        have HE := Lib.hid hf
        clear he hf
        go_wp2_with fail
        with_reducible refine (r1.out _ ra).mono ?_
        rintro y w4 ⟨rfl, h4, k4⟩
        have HH := Lib.hid h4
        have hx4 := Lib.hid (hx2.kept k4 (by simpa using hxg))
        have kf := ka.trans k4
        clear s s0 s1 x0 c0 c1 r1 ra h4 k4 hx hx2 ka
        go_wp2
        have hk := Hk.out; have hlt := Hl.out
        go_roundg (gk - 1)
        case measure => omega
        case rel => exact ⟨k + 1, by go_num, by omega, by rw [HT1.out, HE.out], HH.out, hx4.out, kf⟩
    · obtain rfl : k = n := by omega
      have hlt' : ¬ (k : Int) < (k : Int) := by omega
      have H3 := Lib.hid hR
      clear hlt hk hR hx
      go_wp2
      go_ret
      exact ⟨rfl, H3.out, kk⟩
/-- a number is in a set -/
def inB (x : Rat) (A : List Iv) : Bool := A.any fun s => decide (s.1 ≤ x) && decide (x ≤ s.2)
theorem inB_iff {x : Rat} {A : List Iv} : inB x A = true ↔ InS x A := by
  unfold inB InS InV
  simp
theorem any_range {A : List Iv} {f : Iv → Bool} : (List.range A.length).any (fun i => f (gI A i)) = A.any f := by
  rw [Bool.eq_iff_iff, List.any_eq_true, List.any_eq_true]
  constructor
  · rintro ⟨i, hi, h⟩
    have hi' := List.mem_range.1 hi
    rw [gI_eq hi'] at h
    exact ⟨_, List.getElem_mem hi', h⟩
  · rintro ⟨s, hs, h⟩
    obtain ⟨i, hi, rfl⟩ := List.mem_iff_getElem.1 hs
    exact ⟨i, List.mem_range.2 hi, by rw [gI_eq hi]; exact h⟩
set_option maxRecDepth 100000 in
set_option maxHeartbeats 4000000 in
theorem iHolds_w (p : Option Addr) (n c : Nat) (x : ByteArray) (R : Bool) (w : World)
    (q : ∀ (W : World) (g bl bx : Nat), RE W g 0 → w.heap.size ≤ g → Kp [] w W → SlBx W bl (.slice p n c) → StB W bx x → Calls Tryz.prog 83 #[.pointer (some ⟨g, 0, none⟩), .pointer (some ⟨bl, 0, none⟩), .pointer (some ⟨bx, 0, none⟩)] W fun e w' => e = .returned (.bool R) ∧ RE w' g 0 ∧ Kp [g] W w') :
    Calls Tryz.prog 30 #[.slice p n c, .string x] w fun e w' => e = .returned (.tuple #[.bool R, .int .i64 0]) ∧ Kp [] w w' := by
  obtain ⟨w3, hw3⟩ : ∃ w3, w3 = (w.alloc (.cells #[.slice p n c] 46 (0, 0))).alloc (.cells #[.string x] 22 (0, 0)) := ⟨_, rfl⟩
  have sa : SlBx w3 w.heap.size (.slice p n c) := by rw [hw3]; exact (SlBx.made w _).kept (L := []) ((Kp.refl _ _).alloc _) (by simp)
  have sc : StB w3 (w.heap.size + 1) x := by rw [hw3]; have := StB.made (w.alloc (.cells #[.slice p n c] 46 (0, 0))) x; rw [World.size_alloc] at this; exact this
  have kk : Kp [] w w3 := by rw [hw3]; exact ((Kp.refl _ _).alloc _).alloc _
  have hq : Gives 83 #[.pointer (some ⟨w.heap.size, 0, none⟩), .pointer (some ⟨w.heap.size + 1, 0, none⟩)] w3 (.bool R) 0 := Lib.hid fun W g hR hg k => q W g _ _ hR (Nat.le_trans kk.size hg) (kk.trans k) (sa.kept k (by simp)) (sc.kept k (by simp))
  have qr := Lib.hid (kresult_bool 83 _ R 0 w3 (enters_of Tryz.func83 (by kernel_rfl) rfl) hq)
  rw [zV_bool, bE_z] at qr
  clear q hq sa sc
  subst hw3
  go_enter Tryz.func30, Tryz.ntmps30
  go_wp2_with fail
  with_reducible refine qr.out.mono ?_
  rintro e w4 ⟨rfl, k⟩
  replace kk := kk.trans k
  clear qr k
  go_wp2
  go_ret2
  exact ⟨rfl, kk⟩
theorem iHolds_0 (v : Value) (A : List Iv) (x : Rat) (w : World) (sa : SlT w v (txI A)) (hA : SmI A) (rA : RtI A) (hx : Sm 30 x) (hn : A.length ≤ 256) :
    Calls Tryz.prog 30 #[v, .string (RS x)] w fun e w' => e = .returned (.tuple #[.bool (inB x A), .int .i64 0]) ∧ Kp [] w w' := by
  have sa0 := sa
  obtain ⟨p, c, rfl, _⟩ := sa
  refine iHolds_w p _ c (RS x) _ w fun W g bl bx hR hg k hb hs => ?_
  have qk := Lib.hid (kSet_any (OkL.rt hA hn) _ g w W sa0 hR hg k)
  rw [setE_rt hA rA hn, decide_eq_true rfl] at qk
  have qc : Ca 74 #[.string (RS x)] (.int .i64 0) := Lib.hid fun W => by
    have := qCheck_any (RS x) W (hx.ok (by omega)).size9
    rwa [(sp_RS (hx.ok (by omega))).2.2] at this
  have := iHolds_cl g bl bx _ (txI A) (RS x) (fun i => decide ((gI A i).1 ≤ x) && decide (x ≤ (gI A i).2)) (fun j => (List.range j).any fun i => decide ((gI A i).1 ≤ x) && decide (x ≤ (gI A i).2)) w W hR hb hs k sa0 (by rw [txI_len]; omega) qk qc
    (fun j hj => by
      rw [txI_len] at hj
      have hm := hA _ (List.getElem_mem hj)
      rw [gL_tx hj, gI_eq hj]
      exact inside_c g 0 hm.1 hm.2 hx hx (by omega))
    rfl (fun j _ => by simp only [List.range_succ, List.any_append, List.any_cons, List.any_nil, Bool.or_false]; rw [Bool.or_comm])
  rw [txI_len, any_range (f := fun s => decide (s.1 ≤ x) && decide (x ≤ s.2))] at this
  exact this
end Go.Proofs.YtabepobcmpmkdaaGreat

/- The law IntervalEnds, for any texts. -/
namespace Go.Proofs.YtabepobcmpmkdaaGreat
open Go.RowKit
open Go.Lib (nDigits itoa decDigits)

theorem cAdd {q r : Rat} {j k : Nat} (hq : Sm j q) (hr : Sm k r) (h : j + k < 1024) : Ca 44 #[.string (RS q), .string (RS r)] (.tuple #[.string (RS (q + r)), .int .i64 0]) := Lib.hid fun W => by
  obtain ⟨v1, v2⟩ := add_v hq hr h
  have := qAdd_any (RS q) (RS r) W (hq.ok (by omega)).size9 (hr.ok (by omega)).size9
  rwa [v1, v2] at this
theorem le_mx1 (q r : Rat) : q ≤ mxR q r := by unfold mxR; split <;> grind
theorem le_mx2 (q r : Rat) : r ≤ mxR q r := by unfold mxR; split <;> grind
end Go.Proofs.YtabepobcmpmkdaaGreat

/- What a difference holds; the law IntervalHolds. -/
namespace Go.Proofs.YtabepobcmpmkdaaGreat
open Go.RowKit
open Go.Lib (nDigits itoa decDigits)

theorem Swept.or_in {A B f : List Iv} (h : Swept (fun a b => a || b) A B f) (rA : RtI A) (rB : RtI B) (z : Rat) : InS z f ↔ InS z A ∨ InS z B := by
  obtain ⟨N, D, hp, hI⟩ := h
  exact (hI.or hp rA rB).2 z
theorem Swept.and_in {A B f : List Iv} (h : Swept (fun a b => a && b) A B f) (rA : RtI A) (rB : RtI B) (z : Rat) : InS z f ↔ InS z A ∧ InS z B := by
  obtain ⟨N, D, hp, hI⟩ := h
  exact (hI.and hp rA rB).2 z
theorem Swept.diff_in {A B f : List Iv} (h : Swept (fun a b => a && !b) A B f) (rA : RtI A) (rB : RtI B) (z : Rat) : (InS z f → InS z A) ∧ (InS z A → ¬ InS z B → InS z f) := by
  obtain ⟨N, D, hp, hI⟩ := h
  obtain ⟨_, hN, _, eA, eB, hz⟩ := hI.diff hp rA rB
  refine ⟨fun hf => ?_, fun ha hb => ?_⟩
  · rcases (hz z).1 hf with ⟨_, h, _⟩ | ⟨x, y, _, ⟨h, _⟩, h1, h2⟩
    · exact h
    · exact hasO_in h h1 h2
  · obtain ⟨s, hs, h1, h2⟩ := id ha
    rcases locate hN ⟨s.1, (eA s hs).1, h1⟩ ⟨s.2, (eA s hs).2, h2⟩ with hm | ⟨x, y, hxy, h3, h4⟩
    · exact (hz z).2 (.inl ⟨hm, ha, hb⟩)
    · exact (hz z).2 (.inr ⟨x, y, hxy, ⟨(hasO_iff hN eA hxy h3 h4).1 ha, fun k => hb ((hasO_iff hN eB hxy h3 h4).2 k)⟩, Rat.le_of_lt h3, Rat.le_of_lt h4⟩)
/-- a right set, in numbers -/
theorem right_iv : ∀ {l : List Tx}, l.all stB = true → l.all rtB = true → ∃ A : List Iv, l = txI A ∧ SmI A ∧ RtI A
  | [], _, _ => ⟨[], rfl, fun _ h => by simp at h, fun _ h => by simp at h⟩
  | t :: l, h1, h2 => by
    rw [List.all_cons, Bool.and_eq_true] at h1 h2
    obtain ⟨A, rfl, hs, hr⟩ := right_iv h1.2 h2.2
    have a := h1.1
    have b := h2.1
    unfold stB at a
    unfold rtB at b
    simp only [Bool.and_eq_true, decide_eq_true_eq] at a b
    rcases ic_cases a.1 a.2 with k | ⟨_, q, r, e1, e2, hq, hr2, o1⟩
    · exact absurd b.1.1 k
    · refine ⟨(q, r) :: A, ?_, fun s hm => ?_, fun s hm => ?_⟩
      · obtain ⟨t1, t2⟩ := t
        simp only at e1 e2
        subst e1; subst e2; rfl
      · rcases List.mem_cons.1 hm with rfl | hm
        · exact ⟨hq, hr2⟩
        · exact hs s hm
      · rcases List.mem_cons.1 hm with rfl | hm
        · exact o1
        · exact hr s hm
theorem rg_iv {l : List Tx} (h : rgB l = true) : ∃ A : List Iv, l = txI A ∧ SmI A ∧ RtI A ∧ A.length ≤ 8 := by
  unfold rgB at h
  simp only [Bool.and_eq_true, decide_eq_true_eq] at h
  obtain ⟨A, rfl, hs, hr⟩ := right_iv h.1.2 h.2
  exact ⟨A, rfl, hs, hr, by have := h.1.1; rwa [txI_len] at this⟩
theorem op_bsSl2 {a : Act} {w : World} {o : Oper} {x y : Operand} {p q : Option Addr} {n c m d : Nat} (h : o.op = .buildSlice 68 2 #[(0, x), (1, y)]) (hx : a.eval x = .slice p n c) (hy : a.eval y = .slice q m d) :
    (execOp a.eval o).run Tryz.prog w = .ok (.value (.slice (some ⟨w.heap.size, 0, none⟩) 2 2)) (w.alloc (.cells #[.slice p n c, .slice q m d] 46 (0, 0))) := by
  generalize a.eval = r at *
  simp [execOp, h, hx, hy, go_sem]
theorem op_bsSl5 {a : Act} {w : World} {o : Oper} {x0 x1 x2 x3 x4 : Operand} {p0 p1 p2 p3 p4 : Option Addr} {n0 n1 n2 n3 n4 c0 c1 c2 c3 c4 : Nat} (h : o.op = .buildSlice 68 5 #[(0, x0), (1, x1), (2, x2), (3, x3), (4, x4)]) (h0 : a.eval x0 = .slice p0 n0 c0) (h1 : a.eval x1 = .slice p1 n1 c1) (h2 : a.eval x2 = .slice p2 n2 c2) (h3 : a.eval x3 = .slice p3 n3 c3) (h4 : a.eval x4 = .slice p4 n4 c4) :
    (execOp a.eval o).run Tryz.prog w = .ok (.value (.slice (some ⟨w.heap.size, 0, none⟩) 5 5)) (w.alloc (.cells #[.slice p0 n0 c0, .slice p1 n1 c1, .slice p2 n2 c2, .slice p3 n3 c3, .slice p4 n4 c4] 46 (0, 0))) := by
  generalize a.eval = r at *
  simp [execOp, h, h0, h1, h2, h3, h4, go_sem]

/-- the call of right at the two sets -/
theorem two_right (va vb : Value) (a b : List Tx) (w : World) (sa : SlT w va a) (sb : SlT w vb b) (za : ∀ i, i < a.length → (gL a i).1.size ≤ 9223372036854775807 ∧ (gL a i).2.size ≤ 9223372036854775807) (zb : ∀ i, i < b.length → (gL b i).1.size ≤ 9223372036854775807 ∧ (gL b i).2.size ≤ 9223372036854775807) :
    Calls Tryz.prog 41 #[.slice (some ⟨w.heap.size, 0, none⟩) 2 2] (w.alloc (.cells #[va, vb] 46 (0, 0))) fun r w' => r = .returned (.bool (rgB a && rgB b)) ∧ Kp [] (w.alloc (.cells #[va, vb] 46 (0, 0))) w' := by
  have m := heap_alloc_new w (.cells #[va, vb] 46 (0, 0))
  have k0 : Kp [] w (w.alloc (.cells #[va, vb] 46 (0, 0))) := (Kp.refl _ _).alloc _
  refine right3_any w.heap.size 0 2 2 (fun j => if j = 0 then va else vb) (fun j => if j = 0 then a else b) _ _ (by omega) ?_ ?_ ?_ ?_ ?_
  · intro j hj W k
    rw [World.cell?_of_block (k.block w.heap.size (by simp) (by simp))]
    unfold World.cell?
    rw [Nat.zero_add, m]
    match j, hj with
    | 0, _ => rfl
    | 1, _ => rfl
  · intro j hj
    match j, hj with
    | 0, _ => exact sa.kp k0
    | 1, _ => exact sb.kp k0
  · intro j hj
    match j, hj with
    | 0, _ => exact za
    | 1, _ => exact zb
  · intro j hj h
    match j, hj with
    | 0, _ => rw [show rgB a = false from h]; rfl
    | 1, _ => rw [show rgB b = false from h, Bool.and_false]
  · intro h
    rw [show rgB a = true from h 0 (by omega), show rgB b = true from h 1 (by omega)]; rfl

set_option maxRecDepth 100000 in
set_option maxHeartbeats 8000000 in
theorem holds_1 (p1 p2 : Option Addr) (n1 c1 n2 c2 : Nat) (x : ByteArray)  (w : World)
    (qr : Hid (Calls Tryz.prog 41 #[.slice (some ⟨w.heap.size, 0, none⟩) 2 2] (w.alloc (.cells #[.slice p1 n1 c1, .slice p2 n2 c2] 46 (0, 0))) fun r w' => r = .returned (.bool false) ∧ Kp [] (w.alloc (.cells #[.slice p1 n1 c1, .slice p2 n2 c2] 46 (0, 0))) w')) :
    Calls Tryz.prog 9 #[.slice p1 n1 c1, .slice p2 n2 c2, .string x] w fun r w' => r = .returned (.bool true) ∧ Kp [] w w' := by
  have qw := Lib.hid awake3
  unfold Ca at *
  have kk : Kp [] w (w.alloc (.cells #[.slice p1 n1 c1, .slice p2 n2 c2] 46 (0, 0))) := (Kp.refl _ _).alloc _
  go_enter Tryz.func9, Tryz.ntmps9
  go_wp2_with (first
    | (refine wpList_stepN rfl (op_bsSl2 rfl rfl rfl) (by simp only [Act.put, World.size_alloc, List.setIfInBounds_toArray, List.set_cons_succ, List.set_cons_zero]; rfl) ?_)
    | (refine wpList_stepN rfl (op_bsSl5 rfl rfl rfl rfl rfl rfl) (by simp only [Act.put, World.size_alloc, List.setIfInBounds_toArray, List.set_cons_succ, List.set_cons_zero]; rfl) ?_))
  with_reducible refine qr.out.mono ?_
  rintro r w1 ⟨rfl, k⟩
  replace kk := kk.trans k
  clear k qr
  go_wp2_with fail
  with_reducible refine (qw.out _).mono ?_
  rintro r w9 ⟨rfl, k⟩
  replace kk := kk.trans k
  clear k qw
  go_wp2
  go_ret
  exact ⟨rfl, kk⟩

set_option maxRecDepth 100000 in
set_option maxHeartbeats 8000000 in
theorem holds_2 (p1 p2 : Option Addr) (n1 c1 n2 c2 : Nat) (x : ByteArray) (q2 : Ca 11 #[.string x] (.bool false)) (w : World)
    (qr : Hid (Calls Tryz.prog 41 #[.slice (some ⟨w.heap.size, 0, none⟩) 2 2] (w.alloc (.cells #[.slice p1 n1 c1, .slice p2 n2 c2] 46 (0, 0))) fun r w' => r = .returned (.bool true) ∧ Kp [] (w.alloc (.cells #[.slice p1 n1 c1, .slice p2 n2 c2] 46 (0, 0))) w')) :
    Calls Tryz.prog 9 #[.slice p1 n1 c1, .slice p2 n2 c2, .string x] w fun r w' => r = .returned (.bool true) ∧ Kp [] w w' := by
  have qw := Lib.hid awake3
  unfold Ca at *
  have kk : Kp [] w (w.alloc (.cells #[.slice p1 n1 c1, .slice p2 n2 c2] 46 (0, 0))) := (Kp.refl _ _).alloc _
  go_enter Tryz.func9, Tryz.ntmps9
  go_wp2_with (first
    | (refine wpList_stepN rfl (op_bsSl2 rfl rfl rfl) (by simp only [Act.put, World.size_alloc, List.setIfInBounds_toArray, List.set_cons_succ, List.set_cons_zero]; rfl) ?_)
    | (refine wpList_stepN rfl (op_bsSl5 rfl rfl rfl rfl rfl rfl) (by simp only [Act.put, World.size_alloc, List.setIfInBounds_toArray, List.set_cons_succ, List.set_cons_zero]; rfl) ?_))
  with_reducible refine qr.out.mono ?_
  rintro r w1 ⟨rfl, k⟩
  replace kk := kk.trans k
  clear k qr
  go_wp2_with fail
  with_reducible refine (q2.out _).mono ?_
  rintro r w2 ⟨rfl, k⟩
  replace kk := kk.trans k
  clear k q2
  go_wp2_with fail
  with_reducible refine (qw.out _).mono ?_
  rintro r w9 ⟨rfl, k⟩
  replace kk := kk.trans k
  clear k qw
  go_wp2
  go_ret
  exact ⟨rfl, kk⟩

set_option maxRecDepth 100000 in
set_option maxHeartbeats 8000000 in
theorem holds_3 (p1 p2 : Option Addr) (n1 c1 n2 c2 : Nat) (x : ByteArray) (E : Int) (hE : (E != 0) = true) (q2 : Ca 11 #[.string x] (.bool true)) (q3 : Ca 42 #[.string x] (.int .i64 E)) (w : World)
    (qr : Hid (Calls Tryz.prog 41 #[.slice (some ⟨w.heap.size, 0, none⟩) 2 2] (w.alloc (.cells #[.slice p1 n1 c1, .slice p2 n2 c2] 46 (0, 0))) fun r w' => r = .returned (.bool true) ∧ Kp [] (w.alloc (.cells #[.slice p1 n1 c1, .slice p2 n2 c2] 46 (0, 0))) w')) :
    Calls Tryz.prog 9 #[.slice p1 n1 c1, .slice p2 n2 c2, .string x] w fun r w' => r = .returned (.bool true) ∧ Kp [] w w' := by
  have qw := Lib.hid awake3
  unfold Ca at *
  have kk : Kp [] w (w.alloc (.cells #[.slice p1 n1 c1, .slice p2 n2 c2] 46 (0, 0))) := (Kp.refl _ _).alloc _
  go_enter Tryz.func9, Tryz.ntmps9
  go_wp2_with (first
    | (refine wpList_stepN rfl (op_bsSl2 rfl rfl rfl) (by simp only [Act.put, World.size_alloc, List.setIfInBounds_toArray, List.set_cons_succ, List.set_cons_zero]; rfl) ?_)
    | (refine wpList_stepN rfl (op_bsSl5 rfl rfl rfl rfl rfl rfl) (by simp only [Act.put, World.size_alloc, List.setIfInBounds_toArray, List.set_cons_succ, List.set_cons_zero]; rfl) ?_))
  with_reducible refine qr.out.mono ?_
  rintro r w1 ⟨rfl, k⟩
  replace kk := kk.trans k
  clear k qr
  go_wp2_with fail
  with_reducible refine (q2.out _).mono ?_
  rintro r w2 ⟨rfl, k⟩
  replace kk := kk.trans k
  clear k q2
  go_wp2_with fail
  with_reducible refine (q3.out _).mono ?_
  rintro r w3 ⟨rfl, k⟩
  replace kk := kk.trans k
  clear k q3
  go_wp2_with fail
  with_reducible refine (qw.out _).mono ?_
  rintro r w9 ⟨rfl, k⟩
  replace kk := kk.trans k
  clear k qw
  go_wp2
  go_ret
  exact ⟨rfl, kk⟩

/-- from a world on, Holds at this set and this number gives b -/
def HG (x : ByteArray) (w : World) (v : Value) (b : Bool) : Prop := Hid (∀ W : World, Kp [] w W → Calls Tryz.prog 30 #[v, .string x] W fun e w' => e = .returned (.tuple #[.bool b, .int .i64 0]) ∧ Kp [] W w')
theorem HG.kp {x : ByteArray} {w w' : World} {v : Value} {b : Bool} (h : HG x w v b) (k : Kp [] w w') : HG x w' v b := Lib.hid fun W k2 => h.out W (k.trans k2)
/-- a block of five truths -/
def BoB (w : World) (b : Nat) (L : List Bool) : Prop := w.heap[b]? = some (.cells (L.map Value.bool).toArray 67 (0, 0))
section
variable {w w' : World} {b : Nat} {L : List Bool}
theorem BoB.lt (h : BoB w b L) : b < w.heap.size := (Array.getElem?_eq_some_iff.1 h).1
theorem BoB.c (h : BoB w b L) {i : Nat} {v : Bool} (hv : L[i]? = some v) : w.cell? ⟨b, i, none⟩ = some (.bool v) := by unfold BoB at h; simp [World.cell?, h, hv]
theorem BoB.f (h : BoB w b L) (i : Nat) : w.frozen? ⟨b, i, none⟩ = false := by unfold BoB at h; simp [World.frozen?, h]
theorem BoB.kept {S : List Nat} (h : BoB w b L) (k : Kp S w w') (hb : b ∉ S) : BoB w' b L := (k.block b h.lt hb).trans h
theorem BoB.set (h : BoB w b L) (i : Nat) (v : Bool) : BoB (w.setCell ⟨b, i, none⟩ (.bool v)) b (L.set i v) := by
  unfold BoB at *
  simp [World.setCell, Array.getElem?_modify, h, List.map_set]
end
def lk (h : Nat → Bool) (k : Nat) : List Bool := (List.range 5).map fun j => if j < k then h j else false
theorem lk_set (h : Nat → Bool) {k : Nat} (hk : k < 5) : (lk h k).set k (h k) = lk h (k + 1) := by
  match k, hk with
  | 0, _ => rfl
  | 1, _ => rfl
  | 2, _ => rfl
  | 3, _ => rfl
  | 4, _ => rfl
theorem lk_get (h : Nat → Bool) {k : Nat} (hk : k < 5) : (lk h k)[k]? = some false := by
  match k, hk with
  | 0, _ => rfl
  | 1, _ => rfl
  | 2, _ => rfl
  | 3, _ => rfl
  | 4, _ => rfl

set_option maxRecDepth 100000 in
set_option maxHeartbeats 8000000 in
theorem holds_4 (p1 p2 : Option Addr) (n1 c1 n2 c2 : Nat) (x : ByteArray) (w : World)
    (ba bb : Bool) (q2 : Ca 11 #[.string x] (.bool true)) (q3 : Ca 42 #[.string x] (.int .i64 0)) (ga : HG x w (.slice p1 n1 c1) ba) (gb : HG x w (.slice p2 n2 c2) bb)
    (pU : Hid (∀ W : World, Kp [] w W → Calls Tryz.prog 35 #[.slice p1 n1 c1, .slice p2 n2 c2] W fun y w' => ∃ p n c b, y = .returned (.tuple #[.slice p n c, .int .i64 0]) ∧ HG x w' (.slice p n c) b ∧ b = (ba || bb) ∧ Kp [] W w'))
    (pI : Hid (∀ W : World, Kp [] w W → Calls Tryz.prog 37 #[.slice p1 n1 c1, .slice p2 n2 c2] W fun y w' => ∃ p n c b, y = .returned (.tuple #[.slice p n c, .int .i64 0]) ∧ HG x w' (.slice p n c) b ∧ b = (ba && bb) ∧ Kp [] W w'))
    (pD : Hid (∀ W : World, Kp [] w W → Calls Tryz.prog 39 #[.slice p1 n1 c1, .slice p2 n2 c2] W fun y w' => ∃ p n c b, y = .returned (.tuple #[.slice p n c, .int .i64 0]) ∧ HG x w' (.slice p n c) b ∧ ((b = true → ba = true) ∧ (ba = true → bb = false → b = true)) ∧ Kp [] W w'))
    (qr : Hid (Calls Tryz.prog 41 #[.slice (some ⟨w.heap.size, 0, none⟩) 2 2] (w.alloc (.cells #[.slice p1 n1 c1, .slice p2 n2 c2] 46 (0, 0))) fun r w' => r = .returned (.bool true) ∧ Kp [] (w.alloc (.cells #[.slice p1 n1 c1, .slice p2 n2 c2] 46 (0, 0))) w')) :
    Calls Tryz.prog 9 #[.slice p1 n1 c1, .slice p2 n2 c2, .string x] w fun r w' => r = .returned (.bool true) ∧ Kp [] w w' := by
  have qw := Lib.hid awake3
  unfold Ca at *
  have kk : Kp [] w (w.alloc (.cells #[.slice p1 n1 c1, .slice p2 n2 c2] 46 (0, 0))) := (Kp.refl _ _).alloc _
  go_enter Tryz.func9, Tryz.ntmps9
  go_wp2_with (first
    | (refine wpList_stepN rfl (op_bsSl2 rfl rfl rfl) (by simp only [Act.put, World.size_alloc, List.setIfInBounds_toArray, List.set_cons_succ, List.set_cons_zero]; rfl) ?_)
    | (refine wpList_stepN rfl (op_bsSl5 rfl rfl rfl rfl rfl rfl) (by simp only [Act.put, World.size_alloc, List.setIfInBounds_toArray, List.set_cons_succ, List.set_cons_zero]; rfl) ?_))
  with_reducible refine qr.out.mono ?_
  rintro r w1 ⟨rfl, k⟩
  replace kk := kk.trans k
  clear k qr
  go_wp2_with fail
  with_reducible refine (q2.out _).mono ?_
  rintro r w2 ⟨rfl, k⟩
  replace kk := kk.trans k
  clear k q2
  go_wp2_with fail
  with_reducible refine (q3.out _).mono ?_
  rintro r w3 ⟨rfl, k⟩
  replace kk := kk.trans k
  clear k q3
  have q := Lib.hid (pU.out _ kk)
  go_wp2_with fail
  with_reducible refine q.out.mono ?_
  rintro r w4 ⟨p3, n3, c3, b3, rfl, g3, e3, k⟩
  replace kk := kk.trans k
  clear q pU
  clear k
  have q := Lib.hid (pI.out _ kk)
  go_wp2_with fail
  with_reducible refine q.out.mono ?_
  rintro r w5 ⟨p4, n4, c4, b4, rfl, g4, e4, k⟩
  replace kk := kk.trans k
  clear q pI
  replace g3 := g3.kp k
  clear k
  have q := Lib.hid (pD.out _ kk)
  go_wp2_with fail
  with_reducible refine q.out.mono ?_
  rintro r w6 ⟨p5, n5, c5, b5, rfl, g5, e5, k⟩
  replace kk := kk.trans k
  clear q pD
  replace g3 := g3.kp k
  replace g4 := g4.kp k
  replace ga := ga.kp kk
  replace gb := gb.kp kk
  clear k
  obtain ⟨h, h0, h1, h2, h3, h4⟩ : ∃ h : Nat → Bool, h 0 = ba ∧ h 1 = bb ∧ h 2 = b3 ∧ h 3 = b4 ∧ h 4 = b5 := ⟨fun j => [ba, bb, b3, b4, b5].getD j false, rfl, rfl, rfl, rfl, rfl⟩
  obtain ⟨V, V0, V1, V2, V3, V4⟩ : ∃ V : Nat → Value, V 0 = .slice p1 n1 c1 ∧ V 1 = .slice p2 n2 c2 ∧ V 2 = .slice p3 n3 c3 ∧ V 3 = .slice p4 n4 c4 ∧ V 4 = .slice p5 n5 c5 := ⟨fun j => [.slice p1 n1 c1, .slice p2 n2 c2, .slice p3 n3 c3, .slice p4 n4 c4, .slice p5 n5 c5].getD j undef, rfl, rfl, rfl, rfl, rfl⟩
  have HH : Hid (∀ k, k < 5 → HG x w6 (V k) (h k)) := Lib.hid fun k hk => by
    match k, hk with
    | 0, _ => rw [V0, h0]; exact ga
    | 1, _ => rw [V1, h1]; exact gb
    | 2, _ => rw [V2, h2]; exact g3
    | 3, _ => rw [V3, h3]; exact g4
    | 4, _ => rw [V4, h4]; exact g5
  have z := heap_alloc_new w6 (.cells #[.bool false, .bool false, .bool false, .bool false, .bool false] 67 (0, 0))
  have zS := heap_alloc_new (w6.alloc (.cells #[.bool false, .bool false, .bool false, .bool false, .bool false] 67 (0, 0))) (.cells #[.slice p1 n1 c1, .slice p2 n2 c2, .slice p3 n3 c3, .slice p4 n4 c4, .slice p5 n5 c5] 46 (0, 0))
  rw [World.size_alloc] at zS
  have hB : BoB ((w6.alloc (.cells #[.bool false, .bool false, .bool false, .bool false, .bool false] 67 (0, 0))).alloc (.cells #[.slice p1 n1 c1, .slice p2 n2 c2, .slice p3 n3 c3, .slice p4 n4 c4, .slice p5 n5 c5] 46 (0, 0))) w6.heap.size (lk h 0) := (Below.heap_alloc _ _ _ (by simp)).trans z
  have HV : Hid (∀ k, k < 5 → ∀ W, Kp [w6.heap.size] ((w6.alloc (.cells #[.bool false, .bool false, .bool false, .bool false, .bool false] 67 (0, 0))).alloc (.cells #[.slice p1 n1 c1, .slice p2 n2 c2, .slice p3 n3 c3, .slice p4 n4 c4, .slice p5 n5 c5] 46 (0, 0))) W → W.cell? ⟨w6.heap.size + 1, k, none⟩ = some (V k)) := Lib.hid fun k hk W kW => by
    have e := (kW.block (w6.heap.size + 1) (Array.getElem?_eq_some_iff.1 zS).1 (by simp)).trans zS
    unfold World.cell?
    rw [e]
    match k, hk with
    | 0, _ => rw [V0]; rfl
    | 1, _ => rw [V1]; rfl
    | 2, _ => rw [V2]; rfl
    | 3, _ => rw [V3]; rfl
    | 4, _ => rw [V4]; rfl
  have k7 : Kp [] w6 ((w6.alloc (.cells #[.bool false, .bool false, .bool false, .bool false, .bool false] 67 (0, 0))).alloc (.cells #[.slice p1 n1 c1, .slice p2 n2 c2, .slice p3 n3 c3, .slice p4 n4 c4, .slice p5 n5 c5] 46 (0, 0))) := ((Kp.refl _ _).alloc _).alloc _
  have HF : Hid ((b3 = (ba || bb)) ∧ (b4 = (ba && bb)) ∧ (b5 = true → ba = true) ∧ (ba = true → bb = false → b5 = true)) := Lib.hid ⟨e3, e4, e5.1, e5.2⟩
  have HE : Hid (h 0 = ba ∧ h 1 = bb ∧ h 2 = b3 ∧ h 3 = b4 ∧ h 4 = b5) := Lib.hid ⟨h0, h1, h2, h3, h4⟩
  have kr := Kp.refl [w6.heap.size] ((w6.alloc (.cells #[.bool false, .bool false, .bool false, .bool false, .bool false] 67 (0, 0))).alloc (.cells #[.slice p1 n1 c1, .slice p2 n2 c2, .slice p3 n3 c3, .slice p4 n4 c4, .slice p5 n5 c5] 46 (0, 0)))
  have hsz := kk.size
  clear z zS V0 V1 V2 V3 V4 h0 h1 h2 h3 h4 ga gb g3 g4 g5 e3 e4 e5
  go_wp2_with (first
    | (refine wpList_stepN rfl (op_bsSl2 rfl rfl rfl) (by simp only [Act.put, World.size_alloc, List.setIfInBounds_toArray, List.set_cons_succ, List.set_cons_zero]; rfl) ?_)
    | (refine wpList_stepN rfl (op_bsSl5 rfl rfl rfl rfl rfl rfl) (by simp only [Act.put, World.size_alloc, List.setIfInBounds_toArray, List.set_cons_succ, List.set_cons_zero]; rfl) ?_))
  generalize hW7 : (w6.alloc (.cells #[.bool false, .bool false, .bool false, .bool false, .bool false] 67 (0, 0))).alloc (.cells #[.slice p1 n1 c1, .slice p2 n2 c2, .slice p3 n3 c3, .slice p4 n4 c4, .slice p5 n5 c5] 46 (0, 0)) = w7 at *
  generalize hb6 : w6.heap.size = bI at *
  clear hW7
  go_loopg [63] 5 (fun gk s63 wr => ∃ k : Nat, s63 = .int .i64 k ∧ k + gk = 5 ∧ BoB wr bI (lk h k) ∧ Kp [bI] w7 wr)
  case atStart => exact ⟨0, rfl, by omega, hB, kr⟩
  case round =>
    clear hB kr
    obtain ⟨k, rfl, hk, hB, kr⟩ := hrel
    have kw := k7.step kr (fun y hy => .inr (by rw [List.mem_singleton] at hy; omega))
    by_cases hlt : k < 5
    · have cV := HV.out k hlt wr kr
      have q := Lib.hid ((HH.out k hlt).out wr kw)
      have hlt' : (k : Int) < 5 := by omega
      have z1 : 0 ≤ (k : Int) := by omega
      have Hk := Lib.hid hk; have Hl := Lib.hid hlt
      have HS := Lib.hid (lk_set h hlt)
      have HG0 := Lib.hid (lk_get h hlt)
      clear hk hlt HV HH kw
      generalize V k = vk at *
      generalize hhk : h k = bk at *
      clear hhk
      go_wp2_with fail
      with_reducible refine q.out.mono ?_
      rintro r w8 ⟨rfl, k8⟩
      replace hB := hB.kept k8 (by simp)
      have x0 := hB.c HG0.out
      have y0 := hB.f k
      have hB2 := Lib.hid (hB.set k bk)
      have kf := (kr.trans (k8.mono (fun _ h => by cases h))).setCell (p := ⟨bI, k, none⟩) (.inl (by simp)) (.bool bk)
      clear q hB k8 kr cV
      go_wp2
      have hk := Hk.out; have hlt := Hl.out
      go_roundg (gk - 1)
      case measure => omega
      case rel => exact ⟨k + 1, by go_num, by omega, by rw [← HS.out]; exact hB2.out, kf⟩
    · obtain rfl : k = 5 := by omega
      have hlt' : ¬ ((5 : Nat) : Int) < 5 := by omega
      have kz := kk.trans kw
      obtain ⟨e0, e1, e2, e3, e4⟩ := HE.out
      obtain ⟨f2, f3, f4, f5⟩ := HF.out
      have d0 := hB.c (i := 0) (v := ba) (by rw [← e0]; rfl)
      have d1 := hB.c (i := 1) (v := bb) (by rw [← e1]; rfl)
      have d2 := hB.c (i := 2) (v := b3) (by rw [← e2]; rfl)
      have d3 := hB.c (i := 3) (v := b4) (by rw [← e3]; rfl)
      have d4 := hB.c (i := 4) (v := b5) (by rw [← e4]; rfl)
      clear hlt hk e0 e1 e2 e3 e4 hB kr kw HE HF HV HH kk k7
      subst f2 f3
      cases ba <;> cases bb <;> cases b5
      all_goals first
        | exact absurd (f4 rfl) (by decide)
        | exact absurd (f5 rfl rfl) (by decide)
        | (clear f4 f5
           simp only [Bool.or_false, Bool.or_true, Bool.and_false, Bool.and_true] at d2 d3
           go_wp2_with fail
           with_reducible refine (qw.out _).mono ?_
           rintro r w9 ⟨rfl, k⟩
           replace kz := kz.trans k
           clear k
           go_wp2
           go_ret
           exact ⟨rfl, kz⟩)
end Go.Proofs.YtabepobcmpmkdaaGreat

/- The law IntervalHolds, for any texts. -/
namespace Go.Proofs.YtabepobcmpmkdaaGreat
open Go.RowKit
open Go.Lib (nDigits itoa decDigits)

theorem hg_of {x : Rat} {v : Value} {A : List Iv} {w : World} (sa : SlT w v (txI A)) (hA : SmI A) (rA : RtI A) (hx : Sm 30 x) (hn : A.length ≤ 256) : HG (RS x) w v (inB x A) := Lib.hid fun W k => iHolds_0 v A x W (sa.kp k) hA rA hx hn
theorem inB_or {x : Rat} {A B f : List Iv} (h : InS x f ↔ InS x A ∨ InS x B) : inB x f = (inB x A || inB x B) := by
  rw [Bool.eq_iff_iff, Bool.or_eq_true, inB_iff, inB_iff, inB_iff]; exact h
theorem inB_and {x : Rat} {A B f : List Iv} (h : InS x f ↔ InS x A ∧ InS x B) : inB x f = (inB x A && inB x B) := by
  rw [Bool.eq_iff_iff, Bool.and_eq_true, inB_iff, inB_iff, inB_iff]; exact h
theorem Nrm.rt {f : List Iv} (h : Nrm f) : RtI f := h.1
theorem holds3 (p1 p2 : Option Addr) (c1 c2 : Nat) (a b : List Tx) (x : ByteArray) (w : World) (sa : SlT w (.slice p1 a.length c1) a) (sb : SlT w (.slice p2 b.length c2) b) (za : ∀ i, i < a.length → (gL a i).1.size ≤ 9223372036854775807 ∧ (gL a i).2.size ≤ 9223372036854775807) (zb : ∀ i, i < b.length → (gL b i).1.size ≤ 9223372036854775807 ∧ (gL b i).2.size ≤ 9223372036854775807) (zx : x.size ≤ 9223372036854775807) :
    Calls Tryz.prog 9 #[.slice p1 a.length c1, .slice p2 b.length c2, .string x] w fun r w' => r = .returned (.bool true) ∧ Kp [] w w' := by
  have qr := Lib.hid (two_right _ _ a b w sa sb za zb)
  have q2 := short_c zx
  cases hR : (rgB a && rgB b) with
  | false => rw [hR] at qr; exact holds_1 _ _ _ _ _ _ _ w qr
  | true =>
    rw [hR] at qr
    cases hX : shB x with
    | false => rw [hX] at q2; exact holds_2 _ _ _ _ _ _ _ q2 w qr
    | true =>
      rw [hX] at q2
      have q3 := r2check_c hX
      rcases sh_cases hX with he | ⟨x, rfl, hx⟩
      · exact holds_3 _ _ _ _ _ _ _ _ (by simpa using he) q2 q3 w qr
      · rw [(sp_RS (hx.ok (by omega))).2.2] at q3
        rw [Bool.and_eq_true] at hR
        obtain ⟨A, rfl, hA, rA, nA⟩ := rg_iv hR.1
        obtain ⟨B, rfl, hB, rB, nB⟩ := rg_iv hR.2
        refine holds_4 _ _ _ _ _ _ _ w _ _ q2 q3 (hg_of sa hA rA hx (by omega)) (hg_of sb hB rB hx (by omega)) (Lib.hid fun W k => ?_) (Lib.hid fun W k => ?_) (Lib.hid fun W k => ?_) qr
        · refine (iUnion_0 _ _ A B W (sa.kp k) (sb.kp k) hA hB rA rB (by omega)).mono ?_
          rintro y w' ⟨v', f, h1, h2, h3, h4, h5, h6⟩
          have g := hg_of h2 h3 h5.nrm.rt hx h4
          obtain ⟨p, c, rfl, _⟩ := h2
          exact ⟨p, _, c, _, h1, g, inB_or (h5.or_in rA rB x), h6⟩
        · refine (iIntersection_0 _ _ A B W (sa.kp k) (sb.kp k) hA hB rA rB (by omega)).mono ?_
          rintro y w' ⟨v', f, h1, h2, h3, h4, h5, h6⟩
          have g := hg_of h2 h3 h5.nrm.rt hx h4
          obtain ⟨p, c, rfl, _⟩ := h2
          exact ⟨p, _, c, _, h1, g, inB_and (h5.and_in rA rB x), h6⟩
        · refine (iDifference_0 _ _ A B W (sa.kp k) (sb.kp k) hA hB rA rB (by omega)).mono ?_
          rintro y w' ⟨v', f, h1, h2, h3, h4, h5, h6⟩
          have g := hg_of h2 h3 h5.nrm.rt hx h4
          have d := h5.diff_in rA rB x
          obtain ⟨p, c, rfl, _⟩ := h2
          refine ⟨p, _, c, _, h1, g, ⟨fun h => inB_iff.2 (d.1 (inB_iff.1 h)), fun h k => inB_iff.2 (d.2 (inB_iff.1 h) (fun z => ?_))⟩, h6⟩
          rw [inB_iff.2 z] at k
          cases k
end Go.Proofs.YtabepobcmpmkdaaGreat

/- The length of a union and of an intersection. -/
namespace Go.Proofs.YtabepobcmpmkdaaGreat
open Go.RowKit

def lnS (l : List Iv) : Rat := (l.map fun s => s.2 - s.1).foldr (· + ·) 0
theorem lnS_append (l m : List Iv) : lnS (l ++ m) = lnS l + lnS m := by
  induction l with
  | nil => show lnS m = 0 + lnS m; grind
  | cons s l ih =>
    show (s.2 - s.1) + lnS (l ++ m) = ((s.2 - s.1) + lnS l) + lnS m
    rw [ih]; grind
theorem lnS_one (s : Iv) : lnS [s] = s.2 - s.1 := by show (s.2 - s.1) + 0 = _; grind
theorem wsum_lnS (f : List Iv) : ∀ k, k ≤ f.length → wsum f k = lnS (f.take k)
  | 0, _ => rfl
  | k + 1, hk => by
    have hk' : k < f.length := by omega
    show wsum f k + ((gI f k).2 - (gI f k).1) = _
    rw [wsum_lnS f k (by omega), gI_eq hk', List.take_succ_eq_append_getElem hk', lnS_append, lnS_one]
theorem lenI_lnS (f : List Iv) : lenI f = lnS f := by
  unfold lenI
  rw [wsum_lnS f _ (Nat.le_refl _), List.take_length]
theorem lnS_coll (f : List Iv) (p : Iv) : lnS (coll f p) = lnS f + (p.2 - p.1) := by
  rcases List.eq_nil_or_concat f with rfl | ⟨f', s, rfl⟩
  · rw [coll_nil, lnS_one]; show _ = 0 + _; grind
  · rw [List.concat_eq_append, coll_snoc]
    by_cases h : s.2 = p.1
    · rw [if_pos h, lnS_append, lnS_append, lnS_one, lnS_one]; grind
    · rw [if_neg h, lnS_append, lnS_one]
theorem lnS_colls : ∀ (ps f : List Iv), lnS (colls f ps) = lnS f + lnS ps
  | [], f => by show lnS f = lnS f + 0; grind
  | p :: ps, f => by
    show lnS (colls (coll f p) ps) = lnS f + ((p.2 - p.1) + lnS ps)
    rw [lnS_colls ps, lnS_coll]; grind
/-- the sum over neighbours -/
def adS (o : Rat → Rat → Bool) : List Rat → Rat
  | x :: y :: l => (if o x y then y - x else 0) + adS o (y :: l)
  | _ => 0
theorem lnS_pieces (c : Rat → Bool) (o : Rat → Rat → Bool) : ∀ N : List Rat, lnS (pieces c o N) = adS o N
  | [] => rfl
  | [x] => by
    unfold pieces adS
    by_cases h : c x = true
    · rw [if_pos h, lnS_one]; grind
    · rw [if_neg h]; rfl
  | x :: y :: l => by
    show lnS ((if c x then [(x, x)] else []) ++ ((if o x y then [(x, y)] else []) ++ pieces c o (y :: l))) = (if o x y then y - x else 0) + adS o (y :: l)
    rw [lnS_append, lnS_append, lnS_pieces c o (y :: l)]
    have e1 : lnS (if c x then [(x, x)] else []) = 0 := by
      by_cases h : c x = true
      · rw [if_pos h, lnS_one]; grind
      · rw [if_neg h]; rfl
    have e2 : lnS (if o x y then [(x, y)] else []) = if o x y then y - x else 0 := by
      by_cases h : o x y = true
      · rw [if_pos h, if_pos h, lnS_one]
      · rw [if_neg h, if_neg h]; rfl
    rw [e1, e2]; grind
theorem adS_two (p q : Rat → Rat → Bool) : ∀ N : List Rat, adS (fun x y => p x y || q x y) N + adS (fun x y => p x y && q x y) N = adS p N + adS q N
  | [] => by show (0 : Rat) + 0 = 0 + 0; rfl
  | [x] => by show (0 : Rat) + 0 = 0 + 0; rfl
  | x :: y :: l => by
    have ih := adS_two p q (y :: l)
    show ((if (p x y || q x y) = true then y - x else 0) + adS _ (y :: l)) + ((if (p x y && q x y) = true then y - x else 0) + adS _ (y :: l)) = ((if p x y = true then y - x else 0) + adS p (y :: l)) + ((if q x y = true then y - x else 0) + adS q (y :: l))
    cases p x y <;> cases q x y <;> simp <;> grind
/-- one of the two sets over the numbers of both -/
theorem fst_of {A B : List Iv} {D : List En} {N : List Rat} (hD : D.Perm (ends A false ++ ends B true)) (hA : ∀ s ∈ A, s.1 ≤ s.2) (hB : ∀ s ∈ B, s.1 ≤ s.2) (ha : Asc N) (hm : ∀ x, x ∈ N ↔ ∃ e ∈ D, e.num = x) :
    Nrm (colls [] (pieces (swC (fun a _ => a) D) (swO (fun a _ => a) D) N)) ∧ ∀ z, InS z (colls [] (pieces (swC (fun a _ => a) D) (swO (fun a _ => a) D) N)) ↔ InS z A := by
  obtain ⟨eA, _⟩ := endsIn_of hD hm
  have eN : EndsIn [] N := fun s h => by simp at h
  have := sweep_or (c := swC (fun a _ => a) D) (o := swO (fun a _ => a) D) (B := []) ha eA eN (fun x => ?_) (fun x y hxy => ?_)
  · refine ⟨(sweep_ok ha).1, fun z => ?_⟩
    rw [this z]
    exact ⟨fun h => h.elim id fun h => absurd h inS_nil, .inl⟩
  · unfold swC
    rw [decide_eq_true_eq, balC_iff hD hA hB false x]
    exact ⟨.inl, fun h => h.elim id fun h => absurd h inS_nil⟩
  · unfold swO
    rw [decide_eq_true_eq, balO_iff hD hA hB false ha eA hxy]
    exact ⟨.inl, fun h => h.elim id fun ⟨s, hs, _⟩ => by simp at hs⟩
theorem snd_of {A B : List Iv} {D : List En} {N : List Rat} (hD : D.Perm (ends A false ++ ends B true)) (hA : ∀ s ∈ A, s.1 ≤ s.2) (hB : ∀ s ∈ B, s.1 ≤ s.2) (ha : Asc N) (hm : ∀ x, x ∈ N ↔ ∃ e ∈ D, e.num = x) :
    Nrm (colls [] (pieces (swC (fun _ b => b) D) (swO (fun _ b => b) D) N)) ∧ ∀ z, InS z (colls [] (pieces (swC (fun _ b => b) D) (swO (fun _ b => b) D) N)) ↔ InS z B := by
  obtain ⟨_, eB⟩ := endsIn_of hD hm
  have eN : EndsIn [] N := fun s h => by simp at h
  have := sweep_or (c := swC (fun _ b => b) D) (o := swO (fun _ b => b) D) (B := []) ha eB eN (fun x => ?_) (fun x y hxy => ?_)
  · refine ⟨(sweep_ok ha).1, fun z => ?_⟩
    rw [this z]
    exact ⟨fun h => h.elim id fun h => absurd h inS_nil, .inl⟩
  · unfold swC
    rw [decide_eq_true_eq, balC_iff hD hA hB true x]
    exact ⟨.inl, fun h => h.elim id fun h => absurd h inS_nil⟩
  · unfold swO
    rw [decide_eq_true_eq, balO_iff hD hA hB true ha eB hxy]
    exact ⟨.inl, fun h => h.elim id fun ⟨s, hs, _⟩ => by simp at hs⟩
/-- the length of a union and that of the intersection are together those of the sets -/
theorem len_two {A B u x a b : List Iv} (hu : Swept (fun p q => p || q) A B u) (hx : Swept (fun p q => p && q) A B x) (hA : ∀ s ∈ A, s.1 ≤ s.2) (hB : ∀ s ∈ B, s.1 ≤ s.2)
    (na : Nrm a) (ia : ∀ z, InS z a ↔ InS z A) (nb : Nrm b) (ib : ∀ z, InS z b ↔ InS z B) : lenI u + lenI x = lenI a + lenI b := by
  obtain ⟨N, D, hp, hI⟩ := hu
  obtain ⟨_, ha, hm, rfl⟩ := hI.done
  have hm' : ∀ y, y ∈ N ↔ ∃ e ∈ ends A false ++ ends B true, e.num = y := fun y => by
    rw [hm y]
    exact ⟨fun ⟨e, h1, h2⟩ => ⟨e, hp.mem_iff.1 h1, h2⟩, fun ⟨e, h1, h2⟩ => ⟨e, hp.mem_iff.2 h1, h2⟩⟩
  have ex := hx.eval N ha hm'
  obtain ⟨fa, fi⟩ := fst_of (.refl _) hA hB ha hm'
  obtain ⟨ga, gi⟩ := snd_of (.refl _) hA hB ha hm'
  have e1 := nrm_unique na fa fun z => by rw [ia z, fi z]
  have e2 := nrm_unique nb ga fun z => by rw [ib z, gi z]
  have eu := Swept.eval ⟨N, D, hp, hI⟩ N ha hm'
  obtain ⟨_, _, _, e9⟩ := hI.done
  rw [eu, ex, e1, e2]
  simp only [lenI_lnS, lnS_colls, lnS_pieces]
  have := adS_two (swO (fun p _ => p) (ends A false ++ ends B true)) (swO (fun _ q => q) (ends A false ++ ends B true)) N
  have z : lnS [] = 0 := rfl
  rw [z]
  unfold swO at *
  grind
end Go.Proofs.YtabepobcmpmkdaaGreat

/- How many spans an intersection has; right sets with short ends. -/
namespace Go.Proofs.YtabepobcmpmkdaaGreat
open Go.RowKit
open Go.Lib (nDigits itoa decDigits)

theorem len_starts : ∀ {f : List Iv} {T : List Rat}, Nrm f → (∀ s ∈ f, s.1 ∈ T) → f.length ≤ T.length
  | [], _, _, _ => by simp
  | s :: f, T, h, hT => by
    have hs := hT s (by simp)
    have := len_starts (T := T.erase s.1) h.tail fun t ht => (List.mem_erase_of_ne (fun e => by
      have h1 := h.head
      have h2 := h.lt ht
      grind)).2 (hT t (by simp [ht]))
    rw [List.length_erase_of_mem hs] at this
    have := List.length_pos_of_mem hs
    simp only [List.length_cons]
    omega
/-- below a span of a normal set there is room -/
theorem below_room : ∀ {l1 l2 : List Iv} {s : Iv} {m : Rat}, Nrm (l1 ++ s :: l2) → m < s.1 → ∃ z, m ≤ z ∧ z < s.1 ∧ ¬ InS z (l1 ++ s :: l2)
  | [], l2, s, m, h, hm => by
    refine ⟨m, Rat.le_refl, hm, fun hz => ?_⟩
    have := Nrm.ge h hz
    grind
  | t :: l1, l2, s, m, h, hm => by
    have hs : t.2 < s.1 := Nrm.lt h (by simp)
    obtain ⟨m', hm', h1, h2⟩ : ∃ m', m' < s.1 ∧ m ≤ m' ∧ t.2 < m' := by
      refine ⟨(mxR m t.2 + s.1) * (1 / 2), ?_, ?_, ?_⟩ <;> (unfold mxR; split <;> grind)
    obtain ⟨z, z1, z2, z3⟩ := below_room (l1 := l1) h.tail hm'
    refine ⟨z, Rat.le_trans h1 z1, z2, fun hz => ?_⟩
    rcases inS_cons.1 hz with ⟨_, h4⟩ | h4
    · grind
    · exact z3 h4
theorem and_starts {A B f : List Iv} (h : Nrm f) (he : ∀ z, InS z f ↔ InS z A ∧ InS z B) : ∀ s ∈ f, s.1 ∈ (A ++ B).map Prod.fst := fun s hs => by
  obtain ⟨l1, l2, rfl⟩ := List.append_of_mem hs
  obtain ⟨⟨t, ht, t1, t2⟩, r, hr, r1, r2⟩ := (he s.1).1 ⟨s, hs, Rat.le_refl, h.1 s hs⟩
  by_cases e1 : t.1 = s.1
  · rw [← e1]; exact List.mem_map.2 ⟨t, by simp [ht], rfl⟩
  · by_cases e2 : r.1 = s.1
    · rw [← e2]; exact List.mem_map.2 ⟨r, by simp [hr], rfl⟩
    · exfalso
      have hm : mxR t.1 r.1 < s.1 := by unfold mxR; split <;> grind
      obtain ⟨z, z1, z2, z3⟩ := below_room h hm
      have y1 := Rat.le_trans (le_mx1 t.1 r.1) z1
      have y2 := Rat.le_trans (le_mx2 t.1 r.1) z1
      exact z3 ((he z).2 ⟨⟨t, ht, y1, by grind⟩, r, hr, y2, by grind⟩)
theorem and_len {A B f : List Iv} (h : Nrm f) (he : ∀ z, InS z f ↔ InS z A ∧ InS z B) : f.length ≤ A.length + B.length := by
  have := len_starts h (and_starts h he)
  simpa using this
theorem or_len {A B f : List Iv} (h : Nrm f) (rA : RtI A) (rB : RtI B) (he : ∀ z, InS z f ↔ InS z A ∨ InS z B) : f.length ≤ A.length + B.length := by
  have := nrm_len (A := A ++ B) h (fun s hs => (List.mem_append.1 hs).elim (rA s) (rB s)) fun z => by rw [he z, inS_append]
  simpa using this
theorem inS_erase {A : List Iv} {t : Iv} (ht : t ∈ A) (z : Rat) : InS z A ↔ InS z (A.erase t) ∨ InV z t := by
  constructor
  · rintro ⟨s, hs, h⟩
    by_cases e : s = t
    · exact .inr (e ▸ h)
    · exact .inl ⟨s, (List.mem_erase_of_ne e).2 hs, h⟩
  · rintro (⟨s, hs, h⟩ | h)
    · exact ⟨s, List.mem_of_mem_erase hs, h⟩
    · exact ⟨t, ht, h⟩
/-- two spans that meet become one -/
theorem or_len1 {A B f : List Iv} (h : Nrm f) (rA : RtI A) (rB : RtI B) (he : ∀ z, InS z f ↔ InS z A ∨ InS z B) {x : Rat} (ha : InS x A) (hb : InS x B) : f.length + 1 ≤ A.length + B.length := by
  obtain ⟨t, ht, t1, t2⟩ := ha
  obtain ⟨r, hr, r1, r2⟩ := hb
  have lt := List.length_pos_of_mem ht
  have lr := List.length_pos_of_mem hr
  have hm : mtI r t := ⟨by grind, by grind⟩
  have := nrm_len (A := hu t r :: (A.erase t ++ B.erase r)) h (fun s hs => by
    rcases List.mem_cons.1 hs with rfl | hs
    · exact hu_right (rA t ht) (rB r hr)
    · exact (List.mem_append.1 hs).elim (fun k => rA s (List.mem_of_mem_erase k)) (fun k => rB s (List.mem_of_mem_erase k))) fun z => by
      rw [he z, inS_cons, inS_append, hu_in (rA t ht) (rB r hr) hm z, inS_erase ht z, inS_erase hr z]
      constructor
      · rintro ((a | a) | (a | a))
        · exact .inr (.inl a)
        · exact .inl (.inl a)
        · exact .inr (.inr a)
        · exact .inl (.inr a)
      · rintro ((a | a) | (a | a))
        · exact .inl (.inr a)
        · exact .inr (.inr a)
        · exact .inl (.inl a)
        · exact .inr (.inl a)
  simp only [List.length_cons, List.length_append, List.length_erase_of_mem ht, List.length_erase_of_mem hr] at this
  omega
/-- a right text of at most 15 bytes -/
theorem sm15 {q : Rat} (hq : Sm 30 q) (h : (RS q).size ≤ 15) : Sm 15 q := by
  have oq := hq.ok (by omega)
  obtain ⟨e1, e2, _⟩ := sp_RS oq
  have h1 : (cN (RS q)).size ≤ 15 := Nat.le_trans (cN_le _) h
  have h2 : nDigits q.den ≤ 15 := by
    have n2 := (S_nn (z := (q.den : Int)) (by omega)).2
    rw [Int.natAbs_natCast] at n2
    by_cases hd : q.den = 1
    · rw [hd]; exact nd_le (by omega) (by decide)
    · have := cD_le (RS q)
      rw [e2] at this
      omega
  rw [e1] at h1
  have n1 : nDigits q.num.natAbs ≤ 15 := by
    have : nDigits q.num.natAbs ≤ (S q.num).size := by
      by_cases hn : q.num < 0
      · have := (S_neg hn).2; omega
      · have := (S_nn (z := q.num) (by omega)).2; omega
    omega
  exact ⟨nd_len_lt n1 (by omega), nd_len_lt h2 (by omega)⟩
end Go.Proofs.YtabepobcmpmkdaaGreat

/- The law IntervalCounts. -/
namespace Go.Proofs.YtabepobcmpmkdaaGreat
open Go.RowKit
open Go.Lib (nDigits itoa decDigits)

theorem sm_len {f : List Iv} (h : SmJ 15 f) {n : Nat} (hn : f.length ≤ n) : Sm (32 * n + 1) (lenI f) := by
  refine (wsum_sm h _ (Nat.le_refl _)).mono ?_
  have := Nat.mul_le_mul_left 32 hn
  omega
theorem sm_pair {A B u x : List Iv} (hu : SmJ 15 u) (hx : SmJ 15 x) (nu : Nrm u) (nx : Nrm x) (rA : RtI A) (rB : RtI B) (iu : ∀ z, InS z u ↔ InS z A ∨ InS z B) (ix : ∀ z, InS z x ↔ InS z A ∧ InS z B) (hA : A.length ≤ 8) (hB : B.length ≤ 8) :
    ∃ j k, Sm j (lenI u) ∧ Sm k (lenI x) ∧ j + k < 1024 := by
  have l1 := or_len nu rA rB iu
  have l2 := and_len nx ix
  cases x with
  | nil => exact ⟨_, 1, sm_len hu (n := 16) (by omega), by show Sm 1 (0 : Rat); unfold Sm; decide, by omega⟩
  | cons s x =>
    obtain ⟨a, b⟩ := (ix s.1).1 ⟨s, by simp, Rat.le_refl, nx.head⟩
    have l3 := or_len1 nu rA rB iu a b
    exact ⟨_, _, sm_len hu (n := 15) (by omega), sm_len hx (n := 16) (by omega), by omega⟩
theorem fab_sm {A B u fa fb : List Iv} (h : Swept (fun p q => p || q) A B u) (hA : SmJ 15 A) (hB : SmJ 15 B) (rA : RtI A) (rB : RtI B) (na : Nrm fa) (ia : ∀ z, InS z fa ↔ InS z A) (nb : Nrm fb) (ib : ∀ z, InS z fb ↔ InS z B) : SmJ 15 fa ∧ SmJ 15 fb := by
  obtain ⟨N, D, hp, hI⟩ := h
  obtain ⟨_, ha, hm, _⟩ := hI.done
  have hm' : ∀ y, y ∈ N ↔ ∃ e ∈ ends A false ++ ends B true, e.num = y := fun y => by
    rw [hm y]
    exact ⟨fun ⟨e, h1, h2⟩ => ⟨e, hp.mem_iff.1 h1, h2⟩, fun ⟨e, h1, h2⟩ => ⟨e, hp.mem_iff.2 h1, h2⟩⟩
  have hAB : SmJ 15 (A ++ B) := fun t ht => (List.mem_append.1 ht).elim (hA t) (hB t)
  have hN : ∀ y ∈ N, Sm 15 y := fun y hy => by
    obtain ⟨e, h1, rfl⟩ := (hm' y).1 hy
    exact endOf_sm hAB (ends_num h1)
  obtain ⟨f1, f2⟩ := fst_of (.refl _) rA rB ha hm'
  obtain ⟨g1, g2⟩ := snd_of (.refl _) rA rB ha hm'
  have e1 := nrm_unique na f1 fun z => by rw [ia z, f2 z]
  have e2 := nrm_unique nb g1 fun z => by rw [ib z, g2 z]
  refine ⟨fun s hs => ?_, fun s hs => ?_⟩
  · rw [e1] at hs
    obtain ⟨h1, h2⟩ := colls_ends (fun s h => by simp at h) (pieces_ends _ _ _) s hs
    exact ⟨hN _ h1, hN _ h2⟩
  · rw [e2] at hs
    obtain ⟨h1, h2⟩ := colls_ends (fun s h => by simp at h) (pieces_ends _ _ _) s hs
    exact ⟨hN _ h1, hN _ h2⟩

set_option maxRecDepth 100000 in
set_option maxHeartbeats 8000000 in
theorem counts_1 (p1 p2 : Option Addr) (n1 c1 n2 c2 : Nat) (w : World)
    (qr : Hid (Calls Tryz.prog 41 #[.slice (some ⟨w.heap.size, 0, none⟩) 2 2] (w.alloc (.cells #[.slice p1 n1 c1, .slice p2 n2 c2] 46 (0, 0))) fun r w' => r = .returned (.bool false) ∧ Kp [] (w.alloc (.cells #[.slice p1 n1 c1, .slice p2 n2 c2] 46 (0, 0))) w')) :
    Calls Tryz.prog 8 #[.slice p1 n1 c1, .slice p2 n2 c2] w fun r w' => r = .returned (.bool true) ∧ Kp [] w w' := by
  have qw := Lib.hid awake3
  unfold Ca at *
  have kk : Kp [] w (w.alloc (.cells #[.slice p1 n1 c1, .slice p2 n2 c2] 46 (0, 0))) := (Kp.refl _ _).alloc _
  go_enter Tryz.func8, Tryz.ntmps8
  go_wp2_with (refine wpList_stepN rfl (op_bsSl2 rfl rfl rfl) (by simp only [Act.put, World.size_alloc, List.setIfInBounds_toArray, List.set_cons_succ, List.set_cons_zero]; rfl) ?_)
  with_reducible refine qr.out.mono ?_
  rintro r w1 ⟨rfl, k⟩
  replace kk := kk.trans k
  clear k qr
  go_wp2_with fail
  with_reducible refine (qw.out _).mono ?_
  rintro r w99 ⟨rfl, k⟩
  replace kk := kk.trans k
  clear k qw
  go_wp2
  go_ret
  exact ⟨rfl, kk⟩

set_option maxRecDepth 100000 in
set_option maxHeartbeats 8000000 in
theorem counts_2 (p1 p2 : Option Addr) (n1 c1 n2 c2 : Nat) (A B : List Iv) (hA : SmJ 15 A) (hB : SmJ 15 B) (rA : RtI A) (rB : RtI B) (nA : A.length ≤ 8) (nB : B.length ≤ 8) (w : World) (sa : SlT w (.slice p1 n1 c1) (txI A)) (sb : SlT w (.slice p2 n2 c2) (txI B))
    (qr : Hid (Calls Tryz.prog 41 #[.slice (some ⟨w.heap.size, 0, none⟩) 2 2] (w.alloc (.cells #[.slice p1 n1 c1, .slice p2 n2 c2] 46 (0, 0))) fun r w' => r = .returned (.bool true) ∧ Kp [] (w.alloc (.cells #[.slice p1 n1 c1, .slice p2 n2 c2] 46 (0, 0))) w')) :
    Calls Tryz.prog 8 #[.slice p1 n1 c1, .slice p2 n2 c2] w fun r w' => r = .returned (.bool true) ∧ Kp [] w w' := by
  have qw := Lib.hid awake3
  have HA := Lib.hid hA; have HB := Lib.hid hB; have RA := Lib.hid rA; have RB := Lib.hid rB; have SA := Lib.hid sa; have SB := Lib.hid sb; have NN := Lib.hid (And.intro nA nB)
  clear hA hB rA rB sa sb nA nB
  unfold Ca at *
  have kk : Kp [] w (w.alloc (.cells #[.slice p1 n1 c1, .slice p2 n2 c2] 46 (0, 0))) := (Kp.refl _ _).alloc _
  go_enter Tryz.func8, Tryz.ntmps8
  go_wp2_with (refine wpList_stepN rfl (op_bsSl2 rfl rfl rfl) (by simp only [Act.put, World.size_alloc, List.setIfInBounds_toArray, List.set_cons_succ, List.set_cons_zero]; rfl) ?_)
  with_reducible refine qr.out.mono ?_
  rintro r w1 ⟨rfl, k⟩
  replace kk := kk.trans k
  clear k qr
  have q := Lib.hid (iUnion_0 _ _ A B w1 (SA.out.kp kk) (SB.out.kp kk) (HA.out.up (by omega)) (HB.out.up (by omega)) RA.out RB.out (by have := NN.out; omega))
  go_wp2_with fail
  with_reducible refine q.out.mono ?_
  rintro r w2 ⟨u, U, rfl, y1, y2, y3, y4, k⟩
  replace kk := kk.trans k
  have HU := Lib.hid y1
  have SU := Lib.hid y4
  clear q y1 y2 y3 y4 k
  have q := Lib.hid (iUnion_0 _ _ B A w2 (SB.out.kp kk) (SA.out.kp kk) (HB.out.up (by omega)) (HA.out.up (by omega)) RB.out RA.out (by have := NN.out; omega))
  go_wp2_with fail
  with_reducible refine q.out.mono ?_
  rintro r w3 ⟨v, V, rfl, y1, y2, y3, y4, k⟩
  replace kk := kk.trans k
  have HV := Lib.hid y1
  have SV := Lib.hid y4
  replace HU := Lib.hid (HU.out.kp k)
  clear q y1 y2 y3 y4 k
  obtain rfl : V = U := nrm_unique SV.out.nrm SU.out.nrm fun z => by rw [SV.out.or_in RB.out RA.out z, SU.out.or_in RA.out RB.out z]; exact Or.comm
  have q := Lib.hid (iIntersection_0 _ _ A B w3 (SA.out.kp kk) (SB.out.kp kk) (HA.out.up (by omega)) (HB.out.up (by omega)) RA.out RB.out (by have := NN.out; omega))
  go_wp2_with fail
  with_reducible refine q.out.mono ?_
  rintro r w4 ⟨x, X, rfl, y1, y2, y3, y4, k⟩
  replace kk := kk.trans k
  have HX := Lib.hid y1
  have SX := Lib.hid y4
  replace HU := Lib.hid (HU.out.kp k)
  replace HV := Lib.hid (HV.out.kp k)
  clear q y1 y2 y3 y4 k
  have q := Lib.hid (iIntersection_0 _ _ B A w4 (SB.out.kp kk) (SA.out.kp kk) (HB.out.up (by omega)) (HA.out.up (by omega)) RB.out RA.out (by have := NN.out; omega))
  go_wp2_with fail
  with_reducible refine q.out.mono ?_
  rintro r w5 ⟨y, Y, rfl, y1, y2, y3, y4, k⟩
  replace kk := kk.trans k
  have HY := Lib.hid y1
  have SY := Lib.hid y4
  replace HU := Lib.hid (HU.out.kp k)
  replace HV := Lib.hid (HV.out.kp k)
  replace HX := Lib.hid (HX.out.kp k)
  clear q y1 y2 y3 y4 k
  obtain rfl : Y = X := nrm_unique SY.out.nrm SX.out.nrm fun z => by rw [SY.out.and_in RB.out RA.out z, SX.out.and_in RA.out RB.out z]; exact And.comm
  have JU := Lib.hid (SU.out.smJ HA.out HB.out)
  have JX := Lib.hid (SX.out.smJ HA.out HB.out)
  have LU := Lib.hid (or_len SU.out.nrm RA.out RB.out (SU.out.or_in RA.out RB.out))
  have LX := Lib.hid (and_len SX.out.nrm (SX.out.and_in RA.out RB.out))
  have q := Lib.hid (same_true HU.out HV.out (by rw [txI_len]; have := LU.out; have := LX.out; have := NN.out; omega))
  go_wp2_with fail
  with_reducible refine q.out.mono ?_
  rintro r w6 ⟨rfl, k⟩
  replace kk := kk.trans k
  replace HU := Lib.hid (HU.out.kp k)
  replace HX := Lib.hid (HX.out.kp k)
  replace HY := Lib.hid (HY.out.kp k)
  clear q k
  clear HV SV
  have q := Lib.hid (same_true HX.out HY.out (by rw [txI_len]; have := LU.out; have := LX.out; have := NN.out; omega))
  go_wp2_with fail
  with_reducible refine q.out.mono ?_
  rintro r w7 ⟨rfl, k⟩
  replace kk := kk.trans k
  replace HU := Lib.hid (HU.out.kp k)
  replace HX := Lib.hid (HX.out.kp k)
  clear q k
  clear HY SY
  have q := Lib.hid (iNormal_0 _ _ w7 HU.out (JU.out.up (by omega)) SU.out.nrm.rt (by have := LU.out; have := NN.out; omega))
  go_wp2_with fail
  with_reducible refine q.out.mono ?_
  rintro r w8 ⟨ag, G, rfl, y1, _, _, _, y5, y6, k⟩
  obtain rfl := nrm_unique y5 SU.out.nrm y6
  replace kk := kk.trans k
  have HG := Lib.hid y1
  replace HU := Lib.hid (HU.out.kp k)
  replace HX := Lib.hid (HX.out.kp k)
  clear q y1 y5 y6 k
  have q := Lib.hid (same_true HG.out HU.out (by rw [txI_len]; have := LU.out; have := LX.out; have := NN.out; omega))
  go_wp2_with fail
  with_reducible refine q.out.mono ?_
  rintro r w9 ⟨rfl, k⟩
  replace kk := kk.trans k
  replace HU := Lib.hid (HU.out.kp k)
  replace HX := Lib.hid (HX.out.kp k)
  clear q k
  clear HG
  have q := Lib.hid (iLen_0 _ _ w9 HU.out JU.out (by omega) SU.out.nrm.rt (by have := LU.out; have := NN.out; omega) (by have := LU.out; have := NN.out; omega))
  go_wp2_with fail
  with_reducible refine q.out.mono ?_
  rintro r w10 ⟨f, rfl, y1, y2, k⟩
  obtain rfl := nrm_unique y1 SU.out.nrm y2
  replace kk := kk.trans k
  replace HX := Lib.hid (HX.out.kp k)
  clear q y1 y2 k
  have q := Lib.hid (iLen_0 _ _ w10 HX.out JX.out (by omega) SX.out.nrm.rt (by have := LX.out; have := NN.out; omega) (by have := LX.out; have := NN.out; omega))
  go_wp2_with fail
  with_reducible refine q.out.mono ?_
  rintro r w11 ⟨f, rfl, y1, y2, k⟩
  obtain rfl := nrm_unique y1 SX.out.nrm y2
  replace kk := kk.trans k
  clear q y1 y2 k
  have q := Lib.hid (iLen_0 _ A w11 (SA.out.kp kk) HA.out (by omega) RA.out (by have := NN.out; omega) (by have := NN.out; omega))
  go_wp2_with fail
  with_reducible refine q.out.mono ?_
  rintro r w12 ⟨fa, rfl, y1, y2, k⟩
  replace kk := kk.trans k
  have NA := Lib.hid (And.intro y1 y2)
  clear q y1 y2 k
  have q := Lib.hid (iLen_0 _ B w12 (SB.out.kp kk) HB.out (by omega) RB.out (by have := NN.out; omega) (by have := NN.out; omega))
  go_wp2_with fail
  with_reducible refine q.out.mono ?_
  rintro r w13 ⟨fb, rfl, y1, y2, k⟩
  replace kk := kk.trans k
  have NB := Lib.hid (And.intro y1 y2)
  clear q y1 y2 k
  obtain ⟨j1, j2, m1, m2, m3⟩ := sm_pair JU.out JX.out SU.out.nrm SX.out.nrm RA.out RB.out (SU.out.or_in RA.out RB.out) (SX.out.and_in RA.out RB.out) NN.out.1 NN.out.2
  have a1 := cAdd m1 m2 m3
  obtain ⟨d1, d2⟩ := fab_sm SU.out HA.out HB.out RA.out RB.out NA.out.1 NA.out.2 NB.out.1 NB.out.2
  have a2 := cAdd (sm_len d1 (n := 8) (by have := nrm_len NA.out.1 RA.out NA.out.2; have := NN.out; omega)) (sm_len d2 (n := 8) (by have := nrm_len NB.out.1 RB.out NB.out.2; have := NN.out; omega)) (by omega)
  rw [← len_two SU.out SX.out RA.out RB.out NA.out.1 NA.out.2 NB.out.1 NB.out.2] at a2
  unfold Ca at a1 a2
  clear d1 d2 m1 m2 m3 NA NB SU SX JU JX LU LX HU HX HA HB RA RB SA SB NN
  go_wp2_with fail
  with_reducible refine (a1.out _).mono ?_
  rintro r w14 ⟨rfl, k⟩
  replace kk := kk.trans k
  clear k a1
  go_wp2_with fail
  with_reducible refine (a2.out _).mono ?_
  rintro r w15 ⟨rfl, k⟩
  replace kk := kk.trans k
  clear k a2
  go_wp2_with fail
  with_reducible refine (qw.out _).mono ?_
  rintro r w99 ⟨rfl, k⟩
  replace kk := kk.trans k
  clear k qw
  go_wp2
  go_ret
  exact ⟨rfl, kk⟩

theorem rt15 {A : List Iv} (hs : SmI A) (h : rgB (txI A) = true) : SmJ 15 A := fun s hm => by
  unfold rgB at h
  simp only [Bool.and_eq_true] at h
  have := List.all_eq_true.1 h.2 (RS s.1, RS s.2) (by unfold txI; exact List.mem_map.2 ⟨s, hm, rfl⟩)
  unfold rtB at this
  simp only [Bool.and_eq_true, decide_eq_true_eq] at this
  exact ⟨sm15 (hs s hm).1 this.1.2, sm15 (hs s hm).2 this.2⟩
theorem counts3 (p1 p2 : Option Addr) (c1 c2 : Nat) (a b : List Tx) (w : World) (sa : SlT w (.slice p1 a.length c1) a) (sb : SlT w (.slice p2 b.length c2) b) (za : ∀ i, i < a.length → (gL a i).1.size ≤ 9223372036854775807 ∧ (gL a i).2.size ≤ 9223372036854775807) (zb : ∀ i, i < b.length → (gL b i).1.size ≤ 9223372036854775807 ∧ (gL b i).2.size ≤ 9223372036854775807) :
    Calls Tryz.prog 8 #[.slice p1 a.length c1, .slice p2 b.length c2] w fun r w' => r = .returned (.bool true) ∧ Kp [] w w' := by
  have qr := Lib.hid (two_right _ _ a b w sa sb za zb)
  cases hR : (rgB a && rgB b) with
  | false => rw [hR] at qr; exact counts_1 _ _ _ _ _ _ w qr
  | true =>
    rw [hR] at qr
    rw [Bool.and_eq_true] at hR
    obtain ⟨A, rfl, hA, rA, nA⟩ := rg_iv hR.1
    obtain ⟨B, rfl, hB, rB, nB⟩ := rg_iv hR.2
    exact counts_2 _ _ _ _ _ _ A B (rt15 hA hR.1) (rt15 hB hR.2) rA rB nA nB w sa sb qr
end Go.Proofs.YtabepobcmpmkdaaGreat
