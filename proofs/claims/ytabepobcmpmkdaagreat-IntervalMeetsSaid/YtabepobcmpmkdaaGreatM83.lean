/- Texts Il2, Il3: each says in its own first comment what it proves. -/
import Derived.Test.YtabepobcmpmkdaaGreatM74
import Derived.Test.YtabepobcmpmkdaaGreatM65
import Derived.Test.YtabepobcmpmkdaaGreatM82
/- Reference of layer 3: Common (a drawn region with a free new block, two calls and a store into it: RegF), Meet over its calls. -/
namespace Go.Proofs.YtabepobcmpmkdaaGreat
open Go.RowKit
open Go.Lib (nDigits itoa decDigits)

section
variable {a : Act} {w : World} {o : Oper} {x y : Operand} {b f : Nat} {u v : ByteArray}
theorem op_alSp (h : o.op = .alloc 24) : (execOp a.eval o).run Tryz.prog w = .ok (.value (.pointer (some ⟨w.heap.size, 0, none⟩))) (w.alloc (.cells #[.string ⟨#[]⟩, .string ⟨#[]⟩] 24 (0, 0))) := by
  generalize a.eval = r at *
  simp [execOp, h, go_sem]
theorem op_stSp {s t : ByteArray} (h : o.op = .store 24 x y) (hx : a.eval x = .pointer (some ⟨b, 0, none⟩)) (hy : a.eval y = .agg #[.string u, .string v]) (hb : SpB w b s t) :
    (execOp a.eval o).run Tryz.prog w = .ok .skip ((w.setCell ⟨b, 0, none⟩ (.string u)).setCell ⟨b, 1, none⟩ (.string v)) := by
  have c0 := hb.c0
  have c1 := hb.c1
  have f0 := hb.f 0
  have f1 := hb.f 1
  have l := hb.lt
  generalize a.eval = r at *
  simp [execOp, h, hx, hy, go_sem, c0, c1, f0, f1]
theorem op_faSp0 (h : o.op = .fieldAddr 24 x 0) (hx : a.eval x = .pointer (some ⟨b, f, none⟩)) : (execOp a.eval o).run Tryz.prog w = .ok (.value (.pointer (some ⟨b, f, none⟩))) w := by
  generalize a.eval = r at *
  simp [execOp, h, hx, go_sem]
theorem op_faSp1 (h : o.op = .fieldAddr 24 x 1) (hx : a.eval x = .pointer (some ⟨b, f, none⟩)) : (execOp a.eval o).run Tryz.prog w = .ok (.value (.pointer (some ⟨b, f + 1, none⟩))) w := by
  generalize a.eval = r at *
  simp [execOp, h, hx, go_sem]
theorem op_ldRat (h : o.op = .load 22 x) (hx : a.eval x = .pointer (some ⟨b, f, none⟩)) (hc : w.cell? ⟨b, f, none⟩ = some (.string v)) : (execOp a.eval o).run Tryz.prog w = .ok (.value (.string v)) w := by
  generalize a.eval = r at *
  simp [execOp, h, hx, go_sem, hc]
theorem op_bdSp (h : o.op = .build 24 #[(0, x), (1, y)]) (hx : a.eval x = .string u) (hy : a.eval y = .string v) : (execOp a.eval o).run Tryz.prog w = .ok (.value (.agg #[.string u, .string v])) w := by
  generalize a.eval = r at *
  simp [execOp, h, hx, hy, go_sem]
end
/-- what the chain hands on: behind the store the new block holds the span -/
def EC (i n base : Nat) (u v : ByteArray) (c : Nat) (V : Nat → Value) (w : World) : Prop := c = n → ∃ g, V i = .pointer (some ⟨g, 0, none⟩) ∧ base ≤ g ∧ SpB w g u v
def FC (i base : Nat) (k : Nat) (u : Value) (w : World) : Prop := k = i → ∃ g, u = .pointer (some ⟨g, 0, none⟩) ∧ base ≤ g ∧ ∃ x y, SpB w g x y
section
variable {i n k c base : Nat} {s t : ByteArray} {V : Nat → Value} {w w' : World} {u : Value}
theorem FC.kept (h : FC i base k u w) (hk : Kp [] w w') : FC i base k u w' := fun e => by
  obtain ⟨g, e1, e2, x, y, h2⟩ := h e
  exact ⟨g, e1, e2, x, y, h2.kept hk (by simp)⟩
theorem FC.set {x y : ByteArray} (h : FC i base k u w) (b : Nat) (hb : SpB w b x y) (s t : ByteArray) : FC i base k u ((w.setCell ⟨b, 0, none⟩ (.string s)).setCell ⟨b, 1, none⟩ (.string t)) := fun e => by
  obtain ⟨g, e1, e2, x1, y1, h2⟩ := h e
  by_cases eb : g = b
  · subst eb; exact ⟨g, e1, e2, s, t, h2.set2 s t⟩
  · exact ⟨g, e1, e2, x1, y1, h2.far2 (Ne.symm eb) _ _⟩
theorem EC.kept (h : EC i n base s t c V w) (hk : Kp [] w w') : EC i n base s t c V w' := fun e => by
  obtain ⟨g, e1, e2, h2⟩ := h e
  exact ⟨g, e1, e2, h2.kept hk (by simp)⟩
theorem EC.free (h : EC i n base s t c V w) (hk : Kp [] w w') (hu : V k = undef) : EC i n base s t c (updV V k u) w' := fun e => by
  obtain ⟨g, e1, e2, h2⟩ := h.kept hk e
  refine ⟨g, ?_, e2, h2⟩
  rw [updV_ne (fun x => by subst x; rw [hu] at e1; simp [undef] at e1)]
  exact e1
theorem EC.small (h : c ≠ n) : EC i n base s t c V w := fun e => absurd e h
end

def com_s : RSt := ⟨13, 26, 3, fun i => ([7, 8, 9, 10, 11, 12, 13, 14, 15, 16, 17, 6, 26] : List Nat).getD i 0, fun i => ([0, 0, 0, 0, 1, 0, 0, 0, 0, 1, 0, 2, 1] : List Nat).getD i 0, fun i => ([0, 0, 0, 0, 0, 0, 0, 0, 0, 1, 0, 0, 2] : List Nat).getD i 0, fun i => ([13, 13, 13, 13, 13, 13, 11, 0, 1, 2, 3, 4, 5, 6, 7, 8, 9, 10, 13, 13, 13, 13, 13, 13, 13, 13, 13] : List Nat).getD i 13, fun i => ([4, 9, 12] : List Nat).getD i 0, fun _ => false, fun _ => true, fun _ => 0, fun _ => false⟩
def com_y : RSy := ⟨com_s, fun i => ([.at 0, .at 6, .at 1, .at 7, .at 4, .at 2, .at 8, .at 3, .at 9, .at 5, .at 10, .un, .un] : List SV).getD i .un, [(2, .at 0), (3, .at 1)], fun i => ([false, false, false, false, true, false, false, false, false, true, false, false, false] : List Bool).getD i false⟩
def com_ca : List (Nat × Nat × List SV) := [(4, 46, [.at 6, .at 7]), (9, 71, [.at 8, .at 9])]
theorem com_ok : reflOk (opsOf 1 Tryz.f69) com_y [0, 1, 2, 3, 5, 6, 7, 8, 10] com_ca [12] [11] = true := by kernel_rfl

set_option maxRecDepth 100000 in
set_option maxHeartbeats 8000000 in
theorem r3Common (l1 h1 l2 h2 u v : ByteArray) (c : Int) (w : World) (q1 : Ca 46 #[.string l1, .string l2] (.string u)) (q2 : Ca 71 #[.string h1, .string h2] (.string v)) (q3 : Ca 64 #[.string u, .string v] (.int .i64 c)) :
    Calls Tryz.prog 69 #[.agg #[.string l1, .string h1], .agg #[.string l2, .string h2]] w fun r w' => r = .returned (.tuple #[.agg #[.string (if 0 < c then ⟨#[]⟩ else u), .string (if 0 < c then ⟨#[]⟩ else v)], .bool (!decide (0 < c))]) ∧ Kp [] w w' := by
  unfold Ca at *
  have sa := ((SpB.made w l1 h1).alloc (.cells #[.string l2, .string h2] 24 (0, 0))).alloc (.cells #[.string ⟨#[]⟩, .string ⟨#[]⟩] 24 (0, 0))
  have sb := (SpB.made (w.alloc (.cells #[.string l1, .string h1] 24 (0, 0))) l2 h2).alloc (.cells #[.string ⟨#[]⟩, .string ⟨#[]⟩] 24 (0, 0))
  have sr := SpB.made ((w.alloc (.cells #[.string l1, .string h1] 24 (0, 0))).alloc (.cells #[.string l2, .string h2] 24 (0, 0))) ⟨#[]⟩ ⟨#[]⟩
  rw [World.size_alloc] at sb
  rw [World.size_alloc, World.size_alloc] at sr
  have kk : Kp [] w (((w.alloc (.cells #[.string l1, .string h1] 24 (0, 0))).alloc (.cells #[.string l2, .string h2] 24 (0, 0))).alloc (.cells #[.string ⟨#[]⟩, .string ⟨#[]⟩] 24 (0, 0))) := (((Kp.refl _ _).alloc _).alloc _).alloc _
  have hbase : (w.heap.size + 1 + 1 + 1) ≤ (World.drew (((w.alloc (.cells #[.string l1, .string h1] 24 (0, 0))).alloc (.cells #[.string l2, .string h2] 24 (0, 0))).alloc (.cells #[.string ⟨#[]⟩, .string ⟨#[]⟩] 24 (0, 0)))).heap.size := by show _ ≤ (((w.alloc (.cells #[.string l1, .string h1] 24 (0, 0))).alloc (.cells #[.string l2, .string h2] 24 (0, 0))).alloc (.cells #[.string ⟨#[]⟩, .string ⟨#[]⟩] 24 (0, 0))).heap.size; simp
  have hge : (World.drew (((w.alloc (.cells #[.string l1, .string h1] 24 (0, 0))).alloc (.cells #[.string l2, .string h2] 24 (0, 0))).alloc (.cells #[.string ⟨#[]⟩, .string ⟨#[]⟩] 24 (0, 0)))).heap.size ≤ (w.heap.size + 1 + 1 + 1) := by show (((w.alloc (.cells #[.string l1, .string h1] 24 (0, 0))).alloc (.cells #[.string l2, .string h2] 24 (0, 0))).alloc (.cells #[.string ⟨#[]⟩, .string ⟨#[]⟩] 24 (0, 0))).heap.size ≤ _; simp
  have sa0 := sa.c0
  have sa1 := sa.c1
  have sb0 := sb.c0
  have sb1 := sb.c1
  go_enter Tryz.func69, Tryz.ntmps69
  go_wp2_with fail
  rw [frame_lit]
  refine reg_reflF com_y (fun k => ([.pointer (some ⟨w.heap.size, 0, none⟩), .pointer (some ⟨w.heap.size + 1, 0, none⟩), .pointer (some ⟨w.heap.size, 1, none⟩), .pointer (some ⟨w.heap.size + 1, 1, none⟩), .string u, .string v, .string l1, .string l2, .string h1, .string h2, .agg #[.string u, .string v]] : List Value).getD k undef) [] (FC 11 (w.heap.size + 1 + 1 + 1)) (EC 11 3 (w.heap.size + 1 + 1 + 1) u v) (opsOf 1 Tryz.f69) [0, 1, 2, 3, 5, 6, 7, 8, 10] com_ca [12] [11] (by kernel_rfl) (by kernel_rfl) com_ok ⟨rfl, rfl, trivial⟩ ?sp ?ca ?cx ?fr (EC.small (by decide)) (fun c v w1 w2 h k => h.kept k) (fun c v w0 w1 j u h k hf hn hu => h.free k hu) (fun i u w1 w2 h k => h.kept k) ?rest
  case sp =>
    refine ⟨?_, ?_, ?_, ?_, ?_, ?_, ?_, ?_, ?_, trivial⟩
    · intro T wz H o ho; have he : o.op = .fieldAddr 24 (.tmp 2) 0 := Option.some.inj ((congrArg (fun z => z.map Oper.op) ho).symm.trans (show ((opsOf 1 Tryz.f69)[0]?).map Oper.op = some (.fieldAddr 24 (.tmp 2) 0) by kernel_rfl)); exact op_faSp0 he (H.ev (.tmp 2) (.at 0) (by kernel_rfl))
    · intro T wz H o ho; have he : o.op = .load 22 (.tmp 7) := Option.some.inj ((congrArg (fun z => z.map Oper.op) ho).symm.trans (show ((opsOf 1 Tryz.f69)[1]?).map Oper.op = some (.load 22 (.tmp 7)) by kernel_rfl)); exact op_ldRat he (H.ev (.tmp 7) (.at 0) (by kernel_rfl)) (SpB.kept (L := []) (SpB.drew sa) H.kp (by simp)).c0
    · intro T wz H o ho; have he : o.op = .fieldAddr 24 (.tmp 3) 0 := Option.some.inj ((congrArg (fun z => z.map Oper.op) ho).symm.trans (show ((opsOf 1 Tryz.f69)[2]?).map Oper.op = some (.fieldAddr 24 (.tmp 3) 0) by kernel_rfl)); exact op_faSp0 he (H.ev (.tmp 3) (.at 1) (by kernel_rfl))
    · intro T wz H o ho; have he : o.op = .load 22 (.tmp 9) := Option.some.inj ((congrArg (fun z => z.map Oper.op) ho).symm.trans (show ((opsOf 1 Tryz.f69)[3]?).map Oper.op = some (.load 22 (.tmp 9)) by kernel_rfl)); exact op_ldRat he (H.ev (.tmp 9) (.at 1) (by kernel_rfl)) (SpB.kept (L := []) (SpB.drew sb) H.kp (by simp)).c0
    · intro T wz H o ho; have he : o.op = .fieldAddr 24 (.tmp 2) 1 := Option.some.inj ((congrArg (fun z => z.map Oper.op) ho).symm.trans (show ((opsOf 1 Tryz.f69)[5]?).map Oper.op = some (.fieldAddr 24 (.tmp 2) 1) by kernel_rfl)); exact op_faSp1 he (H.ev (.tmp 2) (.at 0) (by kernel_rfl))
    · intro T wz H o ho; have he : o.op = .load 22 (.tmp 12) := Option.some.inj ((congrArg (fun z => z.map Oper.op) ho).symm.trans (show ((opsOf 1 Tryz.f69)[6]?).map Oper.op = some (.load 22 (.tmp 12)) by kernel_rfl)); exact op_ldRat he (H.ev (.tmp 12) (.at 2) (by kernel_rfl)) (SpB.kept (L := []) (SpB.drew sa) H.kp (by simp)).c1
    · intro T wz H o ho; have he : o.op = .fieldAddr 24 (.tmp 3) 1 := Option.some.inj ((congrArg (fun z => z.map Oper.op) ho).symm.trans (show ((opsOf 1 Tryz.f69)[7]?).map Oper.op = some (.fieldAddr 24 (.tmp 3) 1) by kernel_rfl)); exact op_faSp1 he (H.ev (.tmp 3) (.at 1) (by kernel_rfl))
    · intro T wz H o ho; have he : o.op = .load 22 (.tmp 14) := Option.some.inj ((congrArg (fun z => z.map Oper.op) ho).symm.trans (show ((opsOf 1 Tryz.f69)[8]?).map Oper.op = some (.load 22 (.tmp 14)) by kernel_rfl)); exact op_ldRat he (H.ev (.tmp 14) (.at 3) (by kernel_rfl)) (SpB.kept (L := []) (SpB.drew sb) H.kp (by simp)).c1
    · intro T wz H o ho; have he : o.op = .build 24 #[(0, .tmp 11), (1, .tmp 16)] := Option.some.inj ((congrArg (fun z => z.map Oper.op) ho).symm.trans (show ((opsOf 1 Tryz.f69)[10]?).map Oper.op = some (.build 24 #[(0, .tmp 11), (1, .tmp 16)]) by kernel_rfl)); exact op_bdSp he (H.ev (.tmp 11) (.at 4) (by kernel_rfl)) (H.ev (.tmp 16) (.at 5) (by kernel_rfl))
  case ca =>
    refine ⟨?_, ?_, trivial⟩
    · exact ⟨(enters_of Tryz.func46 (by kernel_rfl) rfl), fun wz hk => (q1.out wz).mono fun x w2 ⟨h1, h2⟩ => ⟨_, h1, h2, fun _ => rfl, fun V hE => EC.small (by decide)⟩⟩
    · exact ⟨(enters_of Tryz.func71 (by kernel_rfl) rfl), fun wz hk => (q2.out wz).mono fun x w2 ⟨h1, h2⟩ => ⟨_, h1, h2, fun _ => rfl, fun V hE => EC.small (by decide)⟩⟩
  case cx =>
    refine ⟨?_, trivial⟩
    · intro l T wz hM H hdn o ho; obtain ⟨g, e1, e2, x1, y1, hp⟩ := (H.fr 11 (by decide : 11 < 13) rfl (by kernel_rfl)) rfl; have he : o.op = .store 24 (.tmp 6) (.tmp 17) := Option.some.inj ((congrArg (fun z => z.map Oper.op) ho).symm.trans (show ((opsOf 1 Tryz.f69)[12]?).map Oper.op = some (.store 24 (.tmp 6) (.tmp 17)) by kernel_rfl)); refine ⟨_, op_stSp he ((frame_eval (N := 26) (d := 6) (by decide)).trans e1) (H.ev (.tmp 17) (.at 10) (by kernel_rfl)) hp, kp_set2 H.kp (Nat.le_trans hge e2) _ _, fun j u hf => hf.set g hp _ _, rfl, rfl, ?_⟩; exact fun _ => ⟨g, (updV_ne (by decide)).trans ((if_pos (show 11 < com_y.st.m ∧ com_y.st.kind 11 ≠ 0 ∧ l.getD 11 false = true from ⟨by decide, by decide, hdn 11 (by kernel_rfl)⟩)).trans e1), e2, hp.set2 u v⟩
  case fr =>
    refine ⟨?_, trivial⟩
    · intro T wz H o ho; have he : o.op = .alloc 24 := Option.some.inj ((congrArg (fun z => z.map Oper.op) ho).symm.trans (show ((opsOf 1 Tryz.f69)[11]?).map Oper.op = some (.alloc 24) by kernel_rfl)); exact ⟨_, _, op_alSp he, fun _ => ⟨_, rfl, Nat.le_trans hbase H.kp.size, _, _, SpB.made wz _ _⟩, (Kp.refl _ _).alloc _, fun b o p e => by cases e; exact Nat.le_refl _⟩
  case rest =>
    intro T w7 hout hval k hF hE
    rw [show frameOf com_y.st.N T = (⟨#[T 0, T 1, T 2, T 3, T 4, T 5, T 6, T 7, T 8, T 9, T 10, T 11, T 12, T 13, T 14, T 15, T 16, T 17, T 18, T 19, T 20, T 21, T 22, T 23, T 24, T 25], []⟩ : Act) from frame_list 26 T]
    obtain ⟨g, e1, e2, s6⟩ := hE rfl
    replace e1 : T 6 = .pointer (some ⟨g, 0, none⟩) := e1
    rw [e1, show T 4 = .pointer (some ⟨w.heap.size + 1 + 1, 0, none⟩) from hout 4 rfl]
    have kN := kk.trans k
    replace sr := sr.kept k (by simp)
    have ngr : w.heap.size + 1 + 1 ≠ g := by omega
    clear hout hval hF hE e1 sa0 sa1 sb0 sb1 sa sb hbase hge k kk q1 q2
    have g0 := s6.c0; have g1 := s6.c1
    go_wp2_with fail
    have ks := Kp.refl [] w7
    with_reducible refine (q3.out _).mono ?_
    rintro r w8 ⟨rfl, k⟩
    clear g0 g1 ks
    replace s6 := s6.kept k (by simp)
    replace sr := sr.kept k (by simp)
    replace kN := kN.trans k
    clear k q3
    have g0 := s6.c0; have g1 := s6.c1; have r0 := sr.c0; have f0 := sr.f 0
    by_cases hc : 0 < c
    · have z := sr.set2 ⟨#[]⟩ ⟨#[]⟩
      have kk := kp_set2 kN (show w.heap.size ≤ w.heap.size + 1 + 1 by omega) (.string ⟨#[]⟩) (.string ⟨#[]⟩)
      have f1 := (sr.set1 ⟨#[]⟩).f 1; have r1 := (sr.set1 ⟨#[]⟩).c1
      have d0 := z.c0; have d1 := z.c1
      clear z sr s6 kN
      go_wp2
      refine bodyPost_ret (v := .tuple #[.agg #[.string ⟨#[]⟩, .string ⟨#[]⟩], .bool false]) (by simp [results, Tryz.results69, go_sem, d0, d1]) rfl ?_
      exact ⟨rfl, kk⟩
    · have z := sr.set2 u v
      have kk := kp_set2 kN (show w.heap.size ≤ w.heap.size + 1 + 1 by omega) (.string u) (.string v)
      have f1 := (sr.set1 u).f 1; have r1 := (sr.set1 u).c1
      have d0 := z.c0; have d1 := z.c1
      clear z sr s6 kN
      go_wp2
      refine bodyPost_ret (v := .tuple #[.agg #[.string u, .string v], .bool true]) (by simp [results, Tryz.results69, go_sem, d0, d1]) rfl ?_
      exact ⟨rfl, kk⟩

set_option maxRecDepth 100000 in
set_option maxHeartbeats 4000000 in
theorem r3Meet_e (l1 h1 l2 h2  : ByteArray) (e : Int) (he : (e != 0) = true) (w : World) (qb : Ca 53 #[.agg #[.string l1, .string h1], .agg #[.string l2, .string h2]] (.int .i64 e)) :
    Calls Tryz.prog 20 #[.agg #[.string l1, .string h1], .agg #[.string l2, .string h2]] w fun r w' => r = .returned (.tuple #[.agg #[.string ⟨#[]⟩, .string ⟨#[]⟩], .bool false, .int .i64 e]) ∧ Kp [] w w' := by
  unfold Ca at *
  have sa := ((SpB.made w l1 h1).alloc (.cells #[.string l2, .string h2] 24 (0, 0))).alloc (.cells #[.string ⟨#[]⟩, .string ⟨#[]⟩] 24 (0, 0))
  have sb := (SpB.made (w.alloc (.cells #[.string l1, .string h1] 24 (0, 0))) l2 h2).alloc (.cells #[.string ⟨#[]⟩, .string ⟨#[]⟩] 24 (0, 0))
  have sr := SpB.made ((w.alloc (.cells #[.string l1, .string h1] 24 (0, 0))).alloc (.cells #[.string l2, .string h2] 24 (0, 0))) ⟨#[]⟩ ⟨#[]⟩
  rw [World.size_alloc] at sb
  rw [World.size_alloc, World.size_alloc] at sr
  have kk : Kp [] w (((w.alloc (.cells #[.string l1, .string h1] 24 (0, 0))).alloc (.cells #[.string l2, .string h2] 24 (0, 0))).alloc (.cells #[.string ⟨#[]⟩, .string ⟨#[]⟩] 24 (0, 0))) := (((Kp.refl _ _).alloc _).alloc _).alloc _
  have a0 := sa.c0
  have a1 := sa.c1
  have b0 := sb.c0
  have b1 := sb.c1
  go_enter Tryz.func20, Tryz.ntmps20
  go_wp2_with fail
  with_reducible refine (qb.out _).mono ?_
  rintro r w1 ⟨rfl, k⟩
  replace sa := sa.kept k (by simp); replace sb := sb.kept k (by simp); replace sr := sr.kept k (by simp); replace kk := kk.trans k
  clear a0 a1 b0 b1 k qb
  have x0 := sr.c0; have x1 := sr.c1; have y0 := sr.f 0; have y1 := sr.f 1
  have z := sr.set2 ⟨#[]⟩ ⟨#[]⟩
  have d0 := z.c0; have d1 := z.c1
  have kf := kp_set2 kk (b := w.heap.size + 1 + 1) (by omega) (.string ⟨#[]⟩) (.string ⟨#[]⟩)
  clear sr z kk sa sb
  go_wp2
  refine bodyPost_ret (v := .tuple #[.agg #[.string ⟨#[]⟩, .string ⟨#[]⟩], .bool false, .int .i64 e]) (by simp [results, Tryz.results20, go_sem, d0, d1]) rfl ?_
  exact ⟨rfl, kf⟩

set_option maxRecDepth 100000 in
set_option maxHeartbeats 4000000 in
theorem r3Meet_0 (l1 h1 l2 h2 u v : ByteArray) (t : Bool) (w : World) (qb : Ca 53 #[.agg #[.string l1, .string h1], .agg #[.string l2, .string h2]] (.int .i64 0)) (qc : Ca 69 #[.agg #[.string l1, .string h1], .agg #[.string l2, .string h2]] (.tuple #[.agg #[.string u, .string v], .bool t])) :
    Calls Tryz.prog 20 #[.agg #[.string l1, .string h1], .agg #[.string l2, .string h2]] w fun r w' => r = .returned (.tuple #[.agg #[.string u, .string v], .bool t, .int .i64 0]) ∧ Kp [] w w' := by
  unfold Ca at *
  have sa := ((SpB.made w l1 h1).alloc (.cells #[.string l2, .string h2] 24 (0, 0))).alloc (.cells #[.string ⟨#[]⟩, .string ⟨#[]⟩] 24 (0, 0))
  have sb := (SpB.made (w.alloc (.cells #[.string l1, .string h1] 24 (0, 0))) l2 h2).alloc (.cells #[.string ⟨#[]⟩, .string ⟨#[]⟩] 24 (0, 0))
  have sr := SpB.made ((w.alloc (.cells #[.string l1, .string h1] 24 (0, 0))).alloc (.cells #[.string l2, .string h2] 24 (0, 0))) ⟨#[]⟩ ⟨#[]⟩
  rw [World.size_alloc] at sb
  rw [World.size_alloc, World.size_alloc] at sr
  have kk : Kp [] w (((w.alloc (.cells #[.string l1, .string h1] 24 (0, 0))).alloc (.cells #[.string l2, .string h2] 24 (0, 0))).alloc (.cells #[.string ⟨#[]⟩, .string ⟨#[]⟩] 24 (0, 0))) := (((Kp.refl _ _).alloc _).alloc _).alloc _
  have a0 := sa.c0
  have a1 := sa.c1
  have b0 := sb.c0
  have b1 := sb.c1
  go_enter Tryz.func20, Tryz.ntmps20
  go_wp2_with fail
  with_reducible refine (qb.out _).mono ?_
  rintro r w1 ⟨rfl, k⟩
  replace sa := sa.kept k (by simp); replace sb := sb.kept k (by simp); replace sr := sr.kept k (by simp); replace kk := kk.trans k
  clear a0 a1 b0 b1 k qb
  have a0 := sa.c0; have a1 := sa.c1; have b0 := sb.c0; have b1 := sb.c1
  go_wp2_with fail
  with_reducible refine (qc.out _).mono ?_
  rintro r w2 ⟨rfl, k⟩
  have nr : w.heap.size + 1 + 1 < w2.heap.size := Nat.lt_of_lt_of_le sr.lt k.size
  replace sr := sr.kept k (by simp)
  have sn := SpB.made w2 u v
  replace kk := kk.trans k
  clear a0 a1 b0 b1 k qc
  have g0 := sn.c0; have g1 := sn.c1
  clear sn
  have x0 := sr.c0; have x1 := (sr.set1 u).c1; have y0 := sr.f 0; have y1 := (sr.set1 u).f 1
  have z := (sr.set2 u v).alloc (.cells #[.string u, .string v] 24 (0, 0))
  have d0 := z.c0; have d1 := z.c1
  have kf := (kp_set2 kk (b := w.heap.size + 1 + 1) (by omega) (.string u) (.string v)).alloc (.cells #[.string u, .string v] 24 (0, 0))
  clear sr z kk sa sb
  go_wp2
  refine bodyPost_ret (v := .tuple #[.agg #[.string u, .string v], .bool t, .int .i64 0]) (by simp [results, Tryz.results20, go_sem, d0, d1]) rfl ?_
  exact ⟨rfl, kf⟩

end Go.Proofs.YtabepobcmpmkdaaGreat

/- Meet of package interval and of the reference give the same for short texts; the law IntervalMeets. -/
namespace Go.Proofs.YtabepobcmpmkdaaGreat
open Go.RowKit
open Go.Lib (nDigits itoa decDigits)

theorem iMeet_q (l1 h1 l2 h2 : ByteArray) (a : shB l1 = true) (b : shB h1 = true) (c : shB l2 = true) (d : shB h2 = true) (V : World) (g ba bb : Nat) (hR : RE V g 0) (ha : SpB V ba l1 h1) (hb : SpB V bb l2 h2) :
    Calls Tryz.prog 65 #[.pointer (some ⟨g, 0, none⟩), .pointer (some ⟨ba, 0, none⟩), .pointer (some ⟨bb, 0, none⟩)] V fun x w' => x = .returned (.agg #[.string (grB l1 l2), .string (lsB h1 h2)]) ∧ RE w' g (kp (kp (kp (icE l1 h1) (icE l2 h2)) (qCmE l1 l2)) (qCmE h1 h2)) ∧ Kp [g] V w' :=
  imeet g ba bb l1 h1 l2 h2 _ _ (kp (icE l1 h1) (icE l2 h2)) _ _ V hR ha hb (Lib.hid fun V b0 hR hs => keep_2 g b0 l1 h1 l2 h2 V hR hs (sh_size9 a) (sh_size9 b) (sh_size9 c) (sh_size9 d))
    (Lib.hid fun V hR => k_greater g _ _ _ V hR (sh_size9 a) (sh_size9 c)) (Lib.hid fun V hR => k_less g _ _ _ V hR (sh_size9 b) (sh_size9 d))
theorem sm_mx {k : Nat} {q r : Rat} (hq : Sm k q) (hr : Sm k r) : Sm k (mxR q r) := by unfold mxR; split <;> assumption
theorem sm_mn {k : Nat} {q r : Rat} (hq : Sm k q) (hr : Sm k r) : Sm k (mnR q r) := by unfold mnR; split <;> assumption
theorem meet_both (l1 h1 l2 h2 : ByteArray) (a : shB l1 = true) (b : shB h1 = true) (c : shB l2 = true) (d : shB h2 = true) : ∃ (u v : ByteArray) (t : Bool) (E : Int),
    Ca 19 #[.agg #[.string l1, .string h1], .agg #[.string l2, .string h2]] (.tuple #[.agg #[.string u, .string v], .bool t, .int .i64 E]) ∧ Ca 20 #[.agg #[.string l1, .string h1], .agg #[.string l2, .string h2]] (.tuple #[.agg #[.string u, .string v], .bool t, .int .i64 E]) := by
  have qb := r3both_c a b c d
  have bad : kp (icE l1 h1) (icE l2 h2) ≠ 0 → ∃ (u v : ByteArray) (t : Bool) (E : Int),
      Ca 19 #[.agg #[.string l1, .string h1], .agg #[.string l2, .string h2]] (.tuple #[.agg #[.string u, .string v], .bool t, .int .i64 E]) ∧ Ca 20 #[.agg #[.string l1, .string h1], .agg #[.string l2, .string h2]] (.tuple #[.agg #[.string u, .string v], .bool t, .int .i64 E]) := fun he =>
    ⟨⟨#[]⟩, ⟨#[]⟩, false, kp (icE l1 h1) (icE l2 h2), Lib.hid fun W => iMeet_e l1 h1 l2 h2 _ _ _ (by simpa using he) W fun V g ba bb hR ha hb => by
      have := iMeet_q l1 h1 l2 h2 a b c d V g ba bb hR ha hb
      rw [kpI_ne he, kpI_ne he] at this
      exact this, Lib.hid fun W => r3Meet_e l1 h1 l2 h2 _ (by simpa using he) W qb⟩
  rcases ic_cases a b with e | ⟨e, q1, r1, rfl, rfl, hq1, hr1, _⟩
  · exact bad (by rw [kpI_ne e]; exact e)
  · rcases ic_cases c d with f | ⟨f, q2, r2, rfl, rfl, hq2, hr2, _⟩
    · exact bad (by rw [e, kp_zero]; exact f)
    · have v2 := (cmp_v hq1 hq2 (by omega)).2
      have v4 := (cmp_v hr1 hr2 (by omega)).2
      have v1 := (lsB_v hq1 hq2 (by omega)).2
      have v3 := (lsB_v hr1 hr2 (by omega)).1
      rw [e, f, kp_zero] at qb
      have hu := sm_mx hq1 hq2
      have hv := sm_mn hr1 hr2
      have hi := icE_v hu hv (by omega)
      have q : ∀ (V : World) (g ba bb : Nat), RE V g 0 → SpB V ba (RS q1) (RS r1) → SpB V bb (RS q2) (RS r2) → Calls Tryz.prog 65 #[.pointer (some ⟨g, 0, none⟩), .pointer (some ⟨ba, 0, none⟩), .pointer (some ⟨bb, 0, none⟩)] V fun x w' => x = .returned (.agg #[.string (RS (mxR q1 q2)), .string (RS (mnR r1 r2))]) ∧ RE w' g 0 ∧ Kp [g] V w' := fun V g ba bb hR ha hb => by
        have := iMeet_q _ _ _ _ a b c d V g ba bb hR ha hb
        rw [e, f, v1, v2, v3, v4] at this
        simpa only [kp_zero] using this
      have qc : Ca 69 #[.agg #[.string (RS q1), .string (RS r1)], .agg #[.string (RS q2), .string (RS r2)]] _ := Lib.hid fun W => r3Common _ _ _ _ _ _ _ W (more_c hq1 hq2 (by omega)) (less_c hr1 hr2 (by omega)) (ord2_c hu hv (by omega))
      have qk : Hid (∀ W : World, Calls Tryz.prog 68 #[.agg #[.string (RS (mxR q1 q2)), .string (RS (mnR r1 r2))]] W fun r w' => r = .returned (.int .i64 (icE (RS (mxR q1 q2)) (RS (mnR r1 r2)))) ∧ Kp [] W w') := Lib.hid fun W => icheck_any _ _ W (hu.ok (by omega)).size9 (hv.ok (by omega)).size9
      rw [hi] at qk
      by_cases hlt : mnR r1 r2 < mxR q1 q2
      · rw [if_pos hlt] at qk
        rw [if_pos (cmR_pos.2 hlt), if_pos (cmR_pos.2 hlt), decide_eq_true (cmR_pos.2 hlt)] at qc
        exact ⟨_, _, _, _, Lib.hid fun W => iMeet_9 _ _ _ _ _ _ W q qk, Lib.hid fun W => r3Meet_0 _ _ _ _ _ _ _ W qb qc⟩
      · rw [if_neg hlt] at qk
        have hn : ¬ 0 < cmR (mxR q1 q2) (mnR r1 r2) := fun k => hlt (cmR_pos.1 k)
        rw [if_neg hn, if_neg hn, decide_eq_false hn] at qc
        exact ⟨_, _, _, _, Lib.hid fun W => iMeet_0 _ _ _ _ _ _ W q qk, Lib.hid fun W => r3Meet_0 _ _ _ _ _ _ _ W qb qc⟩

set_option maxRecDepth 100000 in
set_option maxHeartbeats 8000000 in
theorem meet_1 (l1 h1 l2 h2 x : ByteArray) (q1 : Ca 10 #[.agg #[.string l1, .string h1]] (.bool false)) (w : World) :
    Calls Tryz.prog 4 #[.agg #[.string l1, .string h1], .agg #[.string l2, .string h2], .string x] w fun r w' => r = .returned (.bool true) ∧ Kp [] w w' := by
  have qw := Lib.hid awake3
  unfold Ca at *
  have sa := (SpB.made w l1 h1).alloc (.cells #[.string l2, .string h2] 24 (0, 0))
  have sb := SpB.made (w.alloc (.cells #[.string l1, .string h1] 24 (0, 0))) l2 h2
  rw [World.size_alloc] at sb
  have kk : Kp [] w ((w.alloc (.cells #[.string l1, .string h1] 24 (0, 0))).alloc (.cells #[.string l2, .string h2] 24 (0, 0))) := ((Kp.refl _ _).alloc _).alloc _
  have a0 := sa.c0
  have a1 := sa.c1
  have b0 := sb.c0
  have b1 := sb.c1
  go_enter Tryz.func4, Tryz.ntmps4
  go_wp2_with fail
  with_reducible refine (q1.out _).mono ?_
  rintro r w1 ⟨rfl, k⟩
  replace sa := sa.kept k (by simp)
  replace sb := sb.kept k (by simp)
  replace kk := kk.trans k
  clear a0 a1 b0 b1 k q1
  have a0 := sa.c0; have a1 := sa.c1; have b0 := sb.c0; have b1 := sb.c1
  clear a0 a1 b0 b1 sa sb
  go_wp2_with fail
  with_reducible refine (qw.out _).mono ?_
  rintro r w9 ⟨rfl, k⟩
  replace kk := kk.trans k
  clear k qw
  go_wp2
  go_ret
  exact ⟨rfl, kk⟩

set_option maxRecDepth 100000 in
set_option maxHeartbeats 8000000 in
theorem meet_2 (l1 h1 l2 h2 x : ByteArray) (q1 : Ca 10 #[.agg #[.string l1, .string h1]] (.bool true)) (q2 : Ca 10 #[.agg #[.string l2, .string h2]] (.bool false)) (w : World) :
    Calls Tryz.prog 4 #[.agg #[.string l1, .string h1], .agg #[.string l2, .string h2], .string x] w fun r w' => r = .returned (.bool true) ∧ Kp [] w w' := by
  have qw := Lib.hid awake3
  unfold Ca at *
  have sa := (SpB.made w l1 h1).alloc (.cells #[.string l2, .string h2] 24 (0, 0))
  have sb := SpB.made (w.alloc (.cells #[.string l1, .string h1] 24 (0, 0))) l2 h2
  rw [World.size_alloc] at sb
  have kk : Kp [] w ((w.alloc (.cells #[.string l1, .string h1] 24 (0, 0))).alloc (.cells #[.string l2, .string h2] 24 (0, 0))) := ((Kp.refl _ _).alloc _).alloc _
  have a0 := sa.c0
  have a1 := sa.c1
  have b0 := sb.c0
  have b1 := sb.c1
  go_enter Tryz.func4, Tryz.ntmps4
  go_wp2_with fail
  with_reducible refine (q1.out _).mono ?_
  rintro r w1 ⟨rfl, k⟩
  replace sa := sa.kept k (by simp)
  replace sb := sb.kept k (by simp)
  replace kk := kk.trans k
  clear a0 a1 b0 b1 k q1
  have a0 := sa.c0; have a1 := sa.c1; have b0 := sb.c0; have b1 := sb.c1
  go_wp2_with fail
  with_reducible refine (q2.out _).mono ?_
  rintro r w2 ⟨rfl, k⟩
  replace sa := sa.kept k (by simp)
  replace sb := sb.kept k (by simp)
  replace kk := kk.trans k
  clear a0 a1 b0 b1 k q2
  have a0 := sa.c0; have a1 := sa.c1; have b0 := sb.c0; have b1 := sb.c1
  clear a0 a1 b0 b1 sa sb
  go_wp2_with fail
  with_reducible refine (qw.out _).mono ?_
  rintro r w9 ⟨rfl, k⟩
  replace kk := kk.trans k
  clear k qw
  go_wp2
  go_ret
  exact ⟨rfl, kk⟩

set_option maxRecDepth 100000 in
set_option maxHeartbeats 8000000 in
theorem meet_3 (l1 h1 l2 h2 x : ByteArray) (q1 : Ca 10 #[.agg #[.string l1, .string h1]] (.bool true)) (q2 : Ca 10 #[.agg #[.string l2, .string h2]] (.bool true)) (q3 : Ca 11 #[.string x] (.bool false)) (w : World) :
    Calls Tryz.prog 4 #[.agg #[.string l1, .string h1], .agg #[.string l2, .string h2], .string x] w fun r w' => r = .returned (.bool true) ∧ Kp [] w w' := by
  have qw := Lib.hid awake3
  unfold Ca at *
  have sa := (SpB.made w l1 h1).alloc (.cells #[.string l2, .string h2] 24 (0, 0))
  have sb := SpB.made (w.alloc (.cells #[.string l1, .string h1] 24 (0, 0))) l2 h2
  rw [World.size_alloc] at sb
  have kk : Kp [] w ((w.alloc (.cells #[.string l1, .string h1] 24 (0, 0))).alloc (.cells #[.string l2, .string h2] 24 (0, 0))) := ((Kp.refl _ _).alloc _).alloc _
  have a0 := sa.c0
  have a1 := sa.c1
  have b0 := sb.c0
  have b1 := sb.c1
  go_enter Tryz.func4, Tryz.ntmps4
  go_wp2_with fail
  with_reducible refine (q1.out _).mono ?_
  rintro r w1 ⟨rfl, k⟩
  replace sa := sa.kept k (by simp)
  replace sb := sb.kept k (by simp)
  replace kk := kk.trans k
  clear a0 a1 b0 b1 k q1
  have a0 := sa.c0; have a1 := sa.c1; have b0 := sb.c0; have b1 := sb.c1
  go_wp2_with fail
  with_reducible refine (q2.out _).mono ?_
  rintro r w2 ⟨rfl, k⟩
  replace sa := sa.kept k (by simp)
  replace sb := sb.kept k (by simp)
  replace kk := kk.trans k
  clear a0 a1 b0 b1 k q2
  have a0 := sa.c0; have a1 := sa.c1; have b0 := sb.c0; have b1 := sb.c1
  go_wp2_with fail
  with_reducible refine (q3.out _).mono ?_
  rintro r w3 ⟨rfl, k⟩
  replace sa := sa.kept k (by simp)
  replace sb := sb.kept k (by simp)
  replace kk := kk.trans k
  clear a0 a1 b0 b1 k q3
  have a0 := sa.c0; have a1 := sa.c1; have b0 := sb.c0; have b1 := sb.c1
  clear a0 a1 b0 b1 sa sb
  go_wp2_with fail
  with_reducible refine (qw.out _).mono ?_
  rintro r w9 ⟨rfl, k⟩
  replace kk := kk.trans k
  clear k qw
  go_wp2
  go_ret
  exact ⟨rfl, kk⟩

set_option maxRecDepth 100000 in
set_option maxHeartbeats 8000000 in
theorem meet_4 (l1 h1 l2 h2 x : ByteArray) (u1 v1 u2 v2 : ByteArray) (t1 t3 t4 : Bool) (E1 E2 E3 E4 : Int) (q1 : Ca 10 #[.agg #[.string l1, .string h1]] (.bool true)) (q2 : Ca 10 #[.agg #[.string l2, .string h2]] (.bool true)) (q3 : Ca 11 #[.string x] (.bool true)) (p1 : Ca 19 #[.agg #[.string l1, .string h1], .agg #[.string l2, .string h2]] (.tuple #[.agg #[.string u1, .string v1], .bool t1, .int .i64 E1])) (p2 : Ca 20 #[.agg #[.string l1, .string h1], .agg #[.string l2, .string h2]] (.tuple #[.agg #[.string u1, .string v1], .bool t1, .int .i64 E1])) (p3 : Ca 21 #[.agg #[.string l1, .string h1], .agg #[.string l2, .string h2]] (.tuple #[.agg #[.string u2, .string v2], .int .i64 E2])) (p4 : Ca 22 #[.agg #[.string l1, .string h1], .agg #[.string l2, .string h2]] (.tuple #[.agg #[.string u2, .string v2], .int .i64 E2])) (p5 : Ca 23 #[.agg #[.string l1, .string h1], .string x] (.tuple #[.bool t3, .int .i64 E3])) (p6 : Ca 24 #[.agg #[.string l1, .string h1], .string x] (.tuple #[.bool t3, .int .i64 E3])) (p7 : Ca 25 #[.agg #[.string l1, .string h1], .agg #[.string l2, .string h2]] (.tuple #[.bool t4, .int .i64 E4])) (p8 : Ca 26 #[.agg #[.string l1, .string h1], .agg #[.string l2, .string h2]] (.tuple #[.bool t4, .int .i64 E4])) (w : World) :
    Calls Tryz.prog 4 #[.agg #[.string l1, .string h1], .agg #[.string l2, .string h2], .string x] w fun r w' => r = .returned (.bool true) ∧ Kp [] w w' := by
  have qw := Lib.hid awake3
  unfold Ca at *
  have sa := (SpB.made w l1 h1).alloc (.cells #[.string l2, .string h2] 24 (0, 0))
  have sb := SpB.made (w.alloc (.cells #[.string l1, .string h1] 24 (0, 0))) l2 h2
  rw [World.size_alloc] at sb
  have kk : Kp [] w ((w.alloc (.cells #[.string l1, .string h1] 24 (0, 0))).alloc (.cells #[.string l2, .string h2] 24 (0, 0))) := ((Kp.refl _ _).alloc _).alloc _
  have a0 := sa.c0
  have a1 := sa.c1
  have b0 := sb.c0
  have b1 := sb.c1
  go_enter Tryz.func4, Tryz.ntmps4
  go_wp2_with fail
  with_reducible refine (q1.out _).mono ?_
  rintro r w1 ⟨rfl, k⟩
  replace sa := sa.kept k (by simp)
  replace sb := sb.kept k (by simp)
  replace kk := kk.trans k
  clear a0 a1 b0 b1 k q1
  have a0 := sa.c0; have a1 := sa.c1; have b0 := sb.c0; have b1 := sb.c1
  go_wp2_with fail
  with_reducible refine (q2.out _).mono ?_
  rintro r w2 ⟨rfl, k⟩
  replace sa := sa.kept k (by simp)
  replace sb := sb.kept k (by simp)
  replace kk := kk.trans k
  clear a0 a1 b0 b1 k q2
  have a0 := sa.c0; have a1 := sa.c1; have b0 := sb.c0; have b1 := sb.c1
  go_wp2_with fail
  with_reducible refine (q3.out _).mono ?_
  rintro r w3 ⟨rfl, k⟩
  replace sa := sa.kept k (by simp)
  replace sb := sb.kept k (by simp)
  replace kk := kk.trans k
  clear a0 a1 b0 b1 k q3
  have a0 := sa.c0; have a1 := sa.c1; have b0 := sb.c0; have b1 := sb.c1
  have e1 : ∀ W : World, (Op.equalIn 10000 24 (.agg #[.string u1, .string v1]) (.agg #[.string u1, .string v1])).run Tryz.prog W = .ok true W := fun W => eqSp_same _ _ W
  have e2 : ∀ W : World, (Op.equalIn 10000 24 (.agg #[.string u2, .string v2]) (.agg #[.string u2, .string v2])).run Tryz.prog W = .ok true W := fun W => eqSp_same _ _ W
  go_wp2_with fail
  generalize hA : w.heap.size = A at *
  with_reducible refine (p1.out _).mono ?_
  rintro r w4 ⟨rfl, k⟩
  replace sa := sa.kept k (by simp)
  replace sb := sb.kept k (by simp)
  replace kk := kk.trans k
  clear a0 a1 b0 b1 k p1
  have hc0 := kk.size
  rw [hA] at hc0
  have nAC := Nat.ne_of_lt sa.lt
  have nBC := Nat.ne_of_lt sb.lt
  replace sa := sa.alloc (.cells #[.string u1, .string v1] 24 (0, 0))
  replace sb := sb.alloc (.cells #[.string u1, .string v1] 24 (0, 0))
  have sc := SpB.made w4 u1 v1
  replace kk := kk.alloc (.cells #[.string u1, .string v1] 24 (0, 0))
  have a0 := sa.c0; have a1 := sa.c1; have b0 := sb.c0; have b1 := sb.c1
  go_wp2_with fail
  generalize hC : w4.heap.size = C at *
  with_reducible refine (p2.out _).mono ?_
  rintro r w5 ⟨rfl, k⟩
  replace sa := sa.kept k (by simp); replace sb := sb.kept k (by simp); replace sc := sc.kept k (by simp)
  replace kk := kk.trans k
  clear a0 a1 b0 b1 k p2
  have hd0 := kk.size
  rw [hA] at hd0
  have nAD := Nat.ne_of_lt sa.lt
  have nBD := Nat.ne_of_lt sb.lt
  have nCD := Nat.ne_of_lt sc.lt
  replace sa := sa.alloc (.cells #[.string u1, .string v1] 24 (0, 0))
  replace sb := sb.alloc (.cells #[.string u1, .string v1] 24 (0, 0))
  replace sc := sc.alloc (.cells #[.string u1, .string v1] 24 (0, 0))
  have sd := SpB.made w5 u1 v1
  replace kk := kk.alloc (.cells #[.string u1, .string v1] 24 (0, 0))
  have c0 := sc.c0; have c1 := sc.c1; have d0 := sd.c0; have d1 := sd.c1
  have a0 := sa.c0; have a1 := sa.c1; have b0 := sb.c0; have b1 := sb.c1
  go_wp2_with fail
  clear c0 c1 d0 d1
  generalize hD : w5.heap.size = D at *
  with_reducible refine (p3.out _).mono ?_
  rintro r w6 ⟨rfl, k⟩
  replace sa := sa.kept k (by simp); replace sb := sb.kept k (by simp); replace sc := sc.kept k (by simp); replace sd := sd.kept k (by simp)
  replace kk := kk.trans k
  clear a0 a1 b0 b1 k p3 e1
  have f0 := sc.f 0; have f1 := (sc.set1 u2).f 1; have c0 := sc.c0; have c1 := (sc.set1 u2).c1
  replace sa := sa.far2 nAC.symm (.string u2) (.string v2)
  replace sb := sb.far2 nBC.symm (.string u2) (.string v2)
  replace sd := sd.far2 nCD (.string u2) (.string v2)
  replace sc := sc.set2 u2 v2
  replace kk := kp_at2s kk (by rw [hA]; exact hc0) (.string u2) (.string v2)
  have a0 := sa.c0; have a1 := sa.c1; have b0 := sb.c0; have b1 := sb.c1
  go_wp2_with fail
  with_reducible refine (p4.out _).mono ?_
  rintro r w7 ⟨rfl, k⟩
  replace sa := sa.kept k (by simp); replace sb := sb.kept k (by simp); replace sc := sc.kept k (by simp); replace sd := sd.kept k (by simp)
  replace kk := kk.trans k
  clear a0 a1 b0 b1 f0 f1 c0 c1 k p4
  have f0 := sd.f 0; have f1 := (sd.set1 u2).f 1; have c0 := sd.c0; have c1 := (sd.set1 u2).c1
  replace sa := sa.far2 nAD.symm (.string u2) (.string v2)
  replace sb := sb.far2 nBD.symm (.string u2) (.string v2)
  replace sc := sc.far2 nCD.symm (.string u2) (.string v2)
  replace sd := sd.set2 u2 v2
  replace kk := kp_at2s kk (by rw [hA]; exact hd0) (.string u2) (.string v2)
  have a0 := sa.c0; have a1 := sa.c1; have b0 := sb.c0; have b1 := sb.c1
  have x0 := sc.c0; have x1 := sc.c1; have y0 := sd.c0; have y1 := sd.c1
  go_wp2_with fail
  clear x0 x1 y0 y1 e2 f0 f1 c0 c1 sc sd
  with_reducible refine (p5.out _).mono ?_
  rintro r w8 ⟨rfl, k⟩
  replace sa := sa.kept k (by simp)
  replace sb := sb.kept k (by simp)
  replace kk := kk.trans k
  clear a0 a1 b0 b1 k p5
  have a0 := sa.c0; have a1 := sa.c1; have b0 := sb.c0; have b1 := sb.c1
  go_wp2_with fail
  with_reducible refine (p6.out _).mono ?_
  rintro r w10 ⟨rfl, k⟩
  replace sa := sa.kept k (by simp)
  replace sb := sb.kept k (by simp)
  replace kk := kk.trans k
  clear a0 a1 b0 b1 k p6
  have a0 := sa.c0; have a1 := sa.c1; have b0 := sb.c0; have b1 := sb.c1
  go_wp2_with fail
  with_reducible refine (p7.out _).mono ?_
  rintro r w11 ⟨rfl, k⟩
  replace sa := sa.kept k (by simp)
  replace sb := sb.kept k (by simp)
  replace kk := kk.trans k
  clear a0 a1 b0 b1 k p7
  have a0 := sa.c0; have a1 := sa.c1; have b0 := sb.c0; have b1 := sb.c1
  go_wp2_with fail
  with_reducible refine (p8.out _).mono ?_
  rintro r w12 ⟨rfl, k⟩
  replace sa := sa.kept k (by simp)
  replace sb := sb.kept k (by simp)
  replace kk := kk.trans k
  clear a0 a1 b0 b1 k p8
  clear sa sb
  go_wp2_with fail
  with_reducible refine (qw.out _).mono ?_
  rintro r w9 ⟨rfl, k⟩
  replace kk := kk.trans k
  clear k qw
  go_wp2
  go_ret
  exact ⟨rfl, kk⟩

theorem meets3 (l1 h1 l2 h2 x : ByteArray) (s1 : l1.size ≤ 9223372036854775807) (s2 : h1.size ≤ 9223372036854775807) (s3 : l2.size ≤ 9223372036854775807) (s4 : h2.size ≤ 9223372036854775807) (s5 : x.size ≤ 9223372036854775807) (w : World) :
    Calls Tryz.prog 4 #[.agg #[.string l1, .string h1], .agg #[.string l2, .string h2], .string x] w fun r w' => r = .returned (.bool true) ∧ Kp [] w w' := by
  have q1 := r3Short_c s1 s2
  have q2 := r3Short_c s3 s4
  have q3 := short_c s5
  cases hA : (shB l1 && shB h1) with
  | false => rw [hA] at q1; exact meet_1 _ _ _ _ _ q1 w
  | true =>
    rw [hA] at q1
    cases hB : (shB l2 && shB h2) with
    | false => rw [hB] at q2; exact meet_2 _ _ _ _ _ q1 q2 w
    | true =>
      rw [hB] at q2
      cases hC : shB x with
      | false => rw [hC] at q3; exact meet_3 _ _ _ _ _ q1 q2 q3 w
      | true =>
        rw [hC] at q3
        rw [Bool.and_eq_true] at hA hB
        obtain ⟨u1, v1, t1, E1, p1, p2⟩ := meet_both l1 h1 l2 h2 hA.1 hA.2 hB.1 hB.2
        obtain ⟨u2, v2, E2, p3, p4⟩ := hull_both l1 h1 l2 h2 hA.1 hA.2 hB.1 hB.2
        obtain ⟨t3, E3, p5, p6⟩ := contains_both l1 h1 x hA.1 hA.2 hC
        obtain ⟨t4, E4, p7, p8⟩ := within_both l1 h1 l2 h2 hA.1 hA.2 hB.1 hB.2
        exact meet_4 _ _ _ _ _ _ _ _ _ _ _ _ _ _ _ _ q1 q2 q3 p1 p2 p3 p4 p5 p6 p7 p8 w
end Go.Proofs.YtabepobcmpmkdaaGreat
