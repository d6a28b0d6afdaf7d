/- Texts Vec5, Vec6, Vec7, Vec8, Vec9: each says in its own first comment what it proves. -/
import Derived.Test.YtegamkilhgekjaaGreatDoorM54
import Derived.Test.YtegamkilhgekjaaGreatDoorM55
import Derived.Test.YtegamkilhgekjaaGreatDoorChooseA
import Derived.OwnWalk
/- Sums of squares in packages reckon and vector. -/
namespace Go.Proofs.YtegamkilhgekjaaGreatDoor
open Go.RowKit
open Go.Lib (nDigits itoa decDigits)

theorem vRS_int (z : Int) : RS (z : Rat) = S z := by
  unfold RS
  rw [if_pos (Rat.den_intCast ..), Rat.num_intCast]
theorem vsm_int {k : Nat} {z : Int} (h : z.natAbs < 10 ^ k) (hk : 0 < k) : Sm k (z : Rat) := ⟨by rw [Rat.num_intCast]; exact h, by rw [Rat.den_intCast]; exact Nat.one_lt_pow (by omega) (by omega)⟩
/-- a sum of squares -/
def sqs (l : List Int) : Int := l.foldl (fun s n => s + n * n) 0
theorem sqs_take (l : List Int) (i : Nat) (h : i < l.length) : sqs (l.take (i + 1)) = sqs (l.take i) + l[i] * l[i] := by
  unfold sqs
  rw [List.take_add_one, List.foldl_append, List.getElem?_eq_getElem h]
  rfl
theorem sqs_le (l : List Int) (M : Nat) (hb : ∀ n ∈ l, n.natAbs ≤ M) (i : Nat) (hi : i ≤ l.length) : (sqs (l.take i)).natAbs ≤ i * (M * M) := by
  induction i with
  | zero => simp [sqs]
  | succ i ih =>
    rw [sqs_take l i (by omega)]
    have h1 := ih (by omega)
    have h2 := mul_bd (hb _ (List.getElem_mem (by omega : i < l.length))) (hb _ (List.getElem_mem (by omega : i < l.length)))
    rw [Nat.add_mul, Nat.one_mul]
    generalize i * (M * M) = x at *
    generalize M * M = y at *
    omega

set_option maxRecDepth 100000 in
set_option maxHeartbeats 4000000 in
theorem kdot (g gl c : Nat) (ns : List Int) (w : World) (h : RE w g 0) (hs : Strs w gl 0 (ns.map S)) (hg : gl < w.heap.size) (hb : ∀ n ∈ ns, n.natAbs ≤ 1000000000000000000) (hn : ns.length ≤ 64) :
    Calls Tryz.prog 157 #[.pointer (some ⟨g, 0, none⟩), .slice (some ⟨gl, 0, none⟩) ns.length c, .slice (some ⟨gl, 0, none⟩) ns.length c] w fun e w' => e = .returned (.string (S (sqs ns))) ∧ Kp [] w w' := by
  have hn1 : (ns.length : Int) ≤ 64 := by omega
  have hR : ∀ i, i = ns.length → sqs (ns.take i) = sqs ns := fun i e => by rw [e, List.take_length]
  have HR := Lib.hid hR
  have hB := Lib.hid hb
  have HS := Lib.hid hs
  have h0 : S (sqs (ns.take 0)) = ⟨#[48]⟩ := S_zero
  clear hb hR hs
  go_enter Tryz.func157, Tryz.ntmps157
  go_wp2
  go_loopg [7, 12] ns.length (fun gk s7 s12 wr => ∃ k : Nat, s12 = .int .i64 k ∧ s7 = .string (S (sqs (ns.take k))) ∧ k + gk = ns.length ∧ Kp [] w wr)
  case atStart => exact ⟨0, rfl, by rw [h0], by omega, Kp.refl _ _⟩
  case round =>
    obtain ⟨k, rfl, rfl, hk, kk⟩ := hrel
    clear h0
    by_cases hlt : k < ns.length
    · have c0 : wr.cell? ⟨gl, k, none⟩ = some (.string (S ns[k])) := by
        have e := HS.out k (by rw [List.length_map]; exact hlt)
        have e2 : wr.cell? ⟨gl, 0 + k, none⟩ = w.cell? ⟨gl, 0 + k, none⟩ := by unfold World.cell?; simp only [kk.block gl hg (by simp)]
        rw [← e2] at e
        simpa using e
      have hlt' : (k : Int) < (ns.length : Int) := by omega
      have hz1 : 0 ≤ (k : Int) := by omega
      have Hk := Lib.hid hk
      have HL := Lib.hid hlt
      have hst := sqs_take ns k hlt
      have hM := hB.out _ (List.getElem_mem hlt)
      have hle := sqs_le ns 1000000000000000000 hB.out k (by omega)
      have hle2 : (sqs (ns.take k)).natAbs ≤ 64 * (1000000000000000000 * 1000000000000000000) := Nat.le_trans hle (Nat.mul_le_mul_right _ (by omega))
      have hz := isZero_S ns[k]
      generalize hx : ns[k] = x at *
      generalize hy : sqs (ns.take k) = y at *
      by_cases hx0 : x = 0
      · rw [decide_eq_true hx0] at hz
        have Hst : Hid (sqs (ns.take (k + 1)) = y) := Lib.hid (by rw [hst, hx0]; simp)
        clear hst hM hle hle2 hx hy hx0 hk hlt HS h
        generalize S x = X at *
        go_wp2
        have hk := Hk.out
        have hlt := HL.out
        go_roundg (gk - 1)
        case measure => omega
        case rel => exact ⟨k + 1, by go_num, by rw [Hst.out], by omega, kk⟩
      · rw [decide_eq_false hx0] at hz
        have qp : Hid (∀ W : World, Kp [] w W → Calls Tryz.prog 185 #[.pointer (some ⟨g, 0, none⟩), .string (S x), .string (S x)] W fun e w' => e = .returned (.string (S (x * x))) ∧ Kp [] W w') := fun W kW => by
          have hx1 : Sm 19 (x : Rat) := vsm_int (by omega) (by omega)
          have q := kprod hx1 hx1 (by omega) W (h.kept kW (by simp))
          rwa [← Rat.intCast_mul, vRS_int, vRS_int] at q
        have qs : Hid (∀ W : World, Kp [] w W → Calls Tryz.prog 184 #[.pointer (some ⟨g, 0, none⟩), .string (S y), .string (S (x * x))] W fun e w' => e = .returned (.string (S (y + x * x))) ∧ Kp [] W w') := fun W kW => by
          have hx1 : Sm 40 (y : Rat) := vsm_int (by omega) (by omega)
          have hx2 : Sm 40 ((x * x : Int) : Rat) := vsm_int (by have := mul_bd hM hM; omega) (by omega)
          have q := ksum hx1 hx2 (by omega) W (h.kept kW (by simp))
          rwa [← Rat.intCast_add, vRS_int, vRS_int, vRS_int] at q
        have Hst : Hid (S (sqs (ns.take (k + 1))) = S (y + x * x)) := Lib.hid (by rw [hst])
        clear hst hM hle hle2 hx hy hx0 hk hlt HS h
        generalize S (y + x * x) = Z at *
        generalize S (x * x) = Q at *
        generalize S x = X at *
        generalize S y = Y at *
        go_wp2_with fail
        with_reducible refine (qp.out _ kk).mono ?_
        rintro e w1 ⟨rfl, k1⟩
        replace kk := kk.trans k1
        clear k1 c0
        go_wp2_with fail
        with_reducible refine (qs.out _ kk).mono ?_
        rintro e w2 ⟨rfl, k1⟩
        replace kk := kk.trans k1
        clear k1
        go_wp2
        have hk := Hk.out
        have hlt := HL.out
        go_roundg (gk - 1)
        case measure => omega
        case rel => exact ⟨k + 1, by go_num, by rw [Hst.out], by omega, kk⟩
    · have hlt' : ¬ (k : Int) < (ns.length : Int) := by omega
      have e := HR.out k (by omega)
      rw [e]
      clear hlt hk HR e
      go_wp2
      go_ret
      exact ⟨rfl, kk⟩

end Go.Proofs.YtegamkilhgekjaaGreatDoor

/- squares of package vector. -/
namespace Go.Proofs.YtegamkilhgekjaaGreatDoor
open Go.RowKit
open Go.Lib (nDigits itoa decDigits)

/-- ints in a slice -/
def Nums (w : World) (g o : Nat) (ns : List Int) : Prop := ∀ i (h : i < ns.length), w.cell? ⟨g, o + i, none⟩ = some (.int .i64 ns[i])
theorem vwhole {n : Int} (hn : n.natAbs ≤ 1000000000000000000) (w : World) (hl : Tab w) : Calls Tryz.prog 103 #[.int .i64 n] w fun e w' => e = .returned (.string (S n)) ∧ Kp [] w w' :=
  qWhole_any n w ⟨by omega, by omega⟩ hl
theorem rat_info : (Tryz.prog.info? 67).map (fun i => (i.zero, i.size, i.bytes)) = some (some (.string ⟨#[]⟩), 1, 16) := by kernel_rfl
set_option maxRecDepth 100000 in
set_option maxHeartbeats 4000000 in
theorem vsquares (g gl c : Nat) (ns : List Int) (w : World) (h : RE w g 0) (hs : Nums w gl 0 ns) (hg : gl < w.heap.size) (hb : ∀ n ∈ ns, n.natAbs ≤ 1000000000000000000) (hn0 : 0 < ns.length) (hn : ns.length ≤ 64) (hT : Tab w) :
    Calls Tryz.prog 129 #[.pointer (some ⟨g, 0, none⟩), .slice (some ⟨gl, 0, none⟩) ns.length c] w fun e w' => e = .returned (.string (S (sqs ns))) ∧ Kp [] w w' := by
  have hn1 : (ns.length : Int) ≤ 64 := by omega
  have HB := Lib.hid hb
  have HS := Lib.hid hs
  have qD : Hid (∀ (gd cd : Nat) (W : World), Kp [] w W → Strs W gd 0 (ns.map S) → gd < W.heap.size → Calls Tryz.prog 157 #[.pointer (some ⟨g, 0, none⟩), .slice (some ⟨gd, 0, none⟩) ns.length cd, .slice (some ⟨gd, 0, none⟩) ns.length cd] W fun e w' => e = .returned (.string (S (sqs ns))) ∧ Kp [] W w') :=
    fun gd cd W kW h1 h2 => kdot g gd cd ns W (h.kept kW (by simp)) h1 h2 hb hn
  have qW : Hid (∀ (n : Int) (W : World), n.natAbs ≤ 1000000000000000000 → Kp [] w W → Calls Tryz.prog 103 #[.int .i64 n] W fun e w' => e = .returned (.string (S n)) ∧ Kp [] W w') :=
    fun n W h1 h2 => vwhole h1 W (tab_kp hT h2)
  have hk0 : Kp [] w w := Kp.refl _ _
  obtain ⟨i0, hi, hz0, hz1, hz2⟩ := info_parts rat_info
  have hown0 : w.ownsRow w.heap.size 67 1 (.slice none 0 0) 0 (((ns.take 0).map S).map Value.string) := World.ownsRow_nil _ _ _ _
  generalize S (sqs ns) = R at *
  clear hb hs h hT
  go_enter Tryz.func129, Tryz.ntmps129
  go_wp2
  go_loopw [5, 10] (fun s5 s10 wr => ∃ (k : Nat) (sv : Value), sv = s5 ∧ k ≤ ns.length ∧ s10 = .int .i64 k ∧ wr.ownsRow w.heap.size 67 1 sv k (((ns.take k).map S).map Value.string) ∧ Kp [] w wr)
    (fun _ s10 _ => ns.length - (intOf s10).toNat)
  case atStart => exact ⟨0, _, rfl, Nat.zero_le _, rfl, hown0, hk0⟩
  case round =>
    obtain ⟨k, sv, rfl, hk1, rfl, hown, hkp⟩ := hrel
    clear hown0 hk0
    by_cases hlt : k < ns.length
    · have c0 : wr.cell? ⟨gl, k, none⟩ = some (.int .i64 ns[k]) := by
        have e := HS.out k hlt
        have e2 : wr.cell? ⟨gl, 0 + k, none⟩ = w.cell? ⟨gl, 0 + k, none⟩ := by unfold World.cell?; simp only [hkp.block gl hg (by simp)]
        rw [← e2] at e
        simpa using e
      have hlt' : (k : Int) < (ns.length : Int) := by omega
      have hz1' : 0 ≤ (k : Int) := by omega
      have HL := Lib.hid hlt
      have q := Lib.hid (qW.out ns[k] wr (HB.out _ (List.getElem_mem hlt)) hkp)
      have htk : (((ns.take (k + 1)).map S).map Value.string) = (((ns.take k).map S).map Value.string) ++ [.string (S ns[k])] := by
        rw [List.take_add_one, List.getElem?_eq_getElem hlt, List.map_append, List.map_append]; rfl
      have Htk := Lib.hid htk
      clear htk
      generalize S ns[k] = X at *
      generalize ns[k] = x at *
      clear hlt
      go_wp2_with fail
      with_reducible refine q.out.mono ?_
      rintro e w1 ⟨rfl, k1⟩
      have hown1 := hown.kept (kp_grown k1) (by cases sv.ownBlock <;> simp)
      have hkp1 := hkp.trans k1
      clear q k1 hown hkp c0
      go_wp2_with (first | (at_builtin; refine wpList_append_own _ rfl _ _ 176 rfl w.heap.size 67 i0 (.string ⟨#[]⟩) 1 16 Tryz.underlying176 hi hz0 hz1 hz2 rfl (by decide) _ _ _ rfl (hown1.alloc _) ⟨w1.heap.size, 0, none⟩ 1 1 [.string X] rfl rfl ?c1 ?c2 ?c3 ?c4 ?c5 ?_) | fail)
      case c1 => exact cell_one_new _ _ _
      case c2 => intro u hu; simp at hu; subst hu; rfl
      case c3 => unfold maxLen; omega
      case c4 => omega
      case c5 => have := hkp1.size; simp; omega
      · intro sv' w2 hown2 hgrow _
        have hkp2 : Kp [] w w2 := grown_kp (hkp1.alloc _) hgrow (fun b hb => (hown1.lt b hb).1)
        have hown3 : w2.ownsRow w.heap.size 67 1 sv' (k + 1) (((ns.take (k + 1)).map S).map Value.string) := by
          rw [Htk.out]; simpa using hown2
        clear hown2 hgrow hown1 hkp1
        go_wp2_with fail
        have hlt := HL.out
        go_roundw
        case rel => exact ⟨k + 1, sv', rfl, by omega, by go_num, hown3, hkp2⟩
        case measure => simp [intOf]; omega
    · obtain rfl : k = ns.length := by omega
      obtain ⟨gd, cap, rfl, hstr, hgd⟩ : ∃ g cap, sv = .slice (some ⟨g, 0, none⟩) ns.length cap ∧ Strs wr g 0 (ns.map S) ∧ g < wr.heap.size := by
        have h2 := hown
        obtain ⟨_, ⟨_, h3⟩ | ⟨g, cap, cur, rfl, _, hgg, _⟩⟩ := h2
        · omega
        · refine ⟨g, cap, rfl, ?_, (Array.getElem?_eq_some_iff.1 hgg).1⟩
          have := (strs_own hown).1
          rwa [List.take_length] at this
      have qt := Lib.hid (qD.out gd cap wr hkp hstr hgd)
      clear hown hstr qD qW hlt HB HS hk1
      go_wp2_with fail
      with_reducible refine qt.out.mono ?_
      rintro e w1 ⟨rfl, k1⟩
      go_wp2
      go_ret
      exact ⟨rfl, hkp.trans k1⟩

end Go.Proofs.YtegamkilhgekjaaGreatDoor

/- distance of package vector. -/
namespace Go.Proofs.YtegamkilhgekjaaGreatDoor
open Go.RowKit
open Go.Lib (nDigits itoa decDigits)

theorem op_ld1 {a : Act} {w : World} {o : Oper} {x : Operand} {T : TypeId} {b : Nat} {v : Int} (h : o.op = .load 3 x) (hx : a.eval x = .pointer (some ⟨b, 0, none⟩)) (hb : w.heap[b]? = some (.cells #[.int .i64 v] T (0, 0))) :
    (execOp a.eval o).run Tryz.prog w = .ok (.value (.int .i64 v)) w := by
  have c0 : w.cell? ⟨b, 0, none⟩ = some (.int .i64 v) := by simp [World.cell?, hb]
  generalize a.eval = r at *
  simp [execOp, h, hx, go_sem, c0]
theorem op_ldS {a : Act} {w : World} {o : Oper} {x : Operand} {T : TypeId} {b : Nat} {p : Option Addr} {n c : Nat} (h : o.op = .load 34 x) (hx : a.eval x = .pointer (some ⟨b, 0, none⟩)) (hb : w.heap[b]? = some (.cells #[.slice p n c] T (0, 0))) :
    (execOp a.eval o).run Tryz.prog w = .ok (.value (.slice p n c)) w := by
  have c0 : w.cell? ⟨b, 0, none⟩ = some (.slice p n c) := by simp [World.cell?, hb]
  generalize a.eval = r at *
  simp [execOp, h, hx, go_sem, c0]
theorem op_bsN1 {a : Act} {w : World} {o : Oper} {x : Operand} {u : Int} (h : o.op = .buildSlice 34 1 #[(0, x)]) (hx : a.eval x = .int .i64 u) :
    (execOp a.eval o).run Tryz.prog w = .ok (.value (.slice (some ⟨w.heap.size, 0, none⟩) 1 1)) (w.alloc (.cells #[.int .i64 u] 3 (0, 0))) := by
  generalize a.eval = r at *
  simp [execOp, h, hx, go_sem]

def vdi1_s : RSt := ⟨10, 14, 3, fun i => ([5, 6, 7, 8, 9, 10, 11, 12, 13, 4] : List Nat).getD i 0, fun i => ([0, 0, 0, 2, 1, 0, 0, 1, 1, 0] : List Nat).getD i 0, fun i => ([0, 0, 0, 0, 0, 0, 0, 1, 2, 0] : List Nat).getD i 0, fun i => ([10, 10, 10, 10, 9, 0, 1, 2, 3, 4, 5, 6, 7, 8, 10] : List Nat).getD i 10, fun i => ([4, 7, 8] : List Nat).getD i 0, fun _ => false, fun _ => true, fun _ => 0, fun _ => false⟩
def vdi1_y : RSy := ⟨vdi1_s, fun i => ([.at 3, .at 3, .at 2, .un, .at 4, .at 3, .at 5, .at 6, .at 7, .at 7] : List SV).getD i .un, [(0, .at 3), (1, .at 0), (2, .at 1)], fun i => ([false, false, false, false, true, false, false, true, true, false] : List Bool).getD i false⟩
def vdi1_ca : List (Nat × Nat × List SV) := [(7, 129, [.at 3, .at 5]), (8, 127, [.at 3, .fn 128 [], .at 4, .at 6])]
theorem vdi1_ok : reflOk (opsOf 1 Tryz.f126) vdi1_y [2, 6] vdi1_ca [4] [3] = true := by kernel_rfl

set_option maxRecDepth 100000 in
set_option maxHeartbeats 4000000 in
theorem vdist_in (g p1 p2 gn n c : Nat) (v : Int) (A1 A2 R : ByteArray) (w : World) (h1 : w.drew.heap[p1]? = some (.cells #[.int .i64 v] 3 (0, 0))) (h2 : w.drew.heap[p2]? = some (.cells #[.slice (some ⟨gn, 0, none⟩) n c] 34 (0, 0)))
    (q1 : Hid (∀ (W : World) (gl : Nat), Kp [] w.drew W → W.heap[gl]? = some (.cells #[.int .i64 v] 3 (0, 0)) → Calls Tryz.prog 129 #[.pointer (some ⟨g, 0, none⟩), .slice (some ⟨gl, 0, none⟩) 1 1] W fun e w' => e = .returned (.string A1) ∧ Kp [] W w'))
    (q2 : Hid (∀ W : World, Kp [] w.drew W → Calls Tryz.prog 129 #[.pointer (some ⟨g, 0, none⟩), .slice (some ⟨gn, 0, none⟩) n c] W fun e w' => e = .returned (.string A2) ∧ Kp [] W w'))
    (q3 : Hid (∀ W : World, Kp [] w.drew W → Calls Tryz.prog 127 #[.pointer (some ⟨g, 0, none⟩), .func (.func 128) #[] #[], .string A1, .string A2] W fun e w' => e = .returned (.string R) ∧ Kp [] W w')) :
    Calls Tryz.prog 126 #[.pointer (some ⟨g, 0, none⟩), .pointer (some ⟨p1, 0, none⟩), .pointer (some ⟨p2, 0, none⟩)] w fun e w' => e = .returned (.string R) ∧ Kp [] w w' := by
  go_enter Tryz.func126, Tryz.ntmps126
  go_wp2_with fail
  rw [frame_lit]
  refine reg_refl vdi1_y (fun k => ([.pointer (some ⟨p1, 0, none⟩), .pointer (some ⟨p2, 0, none⟩), .int .i64 v, .pointer (some ⟨g, 0, none⟩), .string A1, .slice (some ⟨gn, 0, none⟩) n c, .string A2, .string R] : List Value).getD k undef) [] (fun i u wz => i = 3 → ∃ h, u = .slice (some ⟨h, 0, none⟩) 1 1 ∧ wz.heap[h]? = some (.cells #[.int .i64 v] 3 (0, 0))) (opsOf 1 Tryz.f126) [2, 6] vdi1_ca [4] [3] (by kernel_rfl) (by kernel_rfl) vdi1_ok ⟨rfl, rfl, rfl, trivial⟩ ?sp ?ca ?cx (by decide) ?fr (fun i u y z h k => fun e => by obtain ⟨h1, a1, a2⟩ := h e; exact ⟨h1, a1, (k.block h1 (Array.getElem?_eq_some_iff.1 a2).1 (by exact List.not_mem_nil)).trans a2⟩) ?rest
  case sp =>
    refine ⟨?_, ?_, trivial⟩
    · intro T wz H o ho; have he : o.op = .load 3 (.tmp 1) := Option.some.inj ((congrArg (fun z => z.map Oper.op) ho).symm.trans (show ((opsOf 1 Tryz.f126)[2]?).map Oper.op = some (.load 3 (.tmp 1)) by kernel_rfl)); exact op_ld1 he (H.ev (.tmp 1) (.at 0) (by kernel_rfl)) ((H.kp.block p1 (Array.getElem?_eq_some_iff.1 h1).1 (by exact List.not_mem_nil)).trans h1)
    · intro T wz H o ho; have he : o.op = .load 34 (.tmp 2) := Option.some.inj ((congrArg (fun z => z.map Oper.op) ho).symm.trans (show ((opsOf 1 Tryz.f126)[6]?).map Oper.op = some (.load 34 (.tmp 2)) by kernel_rfl)); exact op_ldS he (H.ev (.tmp 2) (.at 1) (by kernel_rfl)) ((H.kp.block p2 (Array.getElem?_eq_some_iff.1 h2).1 (by exact List.not_mem_nil)).trans h2)
  case ca =>
    refine ⟨?_, ?_, trivial⟩
    · exact ⟨(enters_of Tryz.func129 (by kernel_rfl) rfl), fun wz hk => (q2.out wz hk).mono fun x w2 ⟨h1, h2⟩ => ⟨_, h1, h2, fun _ => rfl⟩⟩
    · exact ⟨(enters_of Tryz.func127 (by kernel_rfl) rfl), fun wz hk => (q3.out wz hk).mono fun x w2 ⟨h1, h2⟩ => ⟨_, h1, h2, fun _ => rfl⟩⟩
  case cx =>
    refine ⟨?_, trivial⟩
    · intro T wz H o ho; obtain ⟨h, hg1, hg2⟩ := (H.fr 3 (by decide : 3 < 10) rfl (by kernel_rfl)) rfl; have he : o.op = .call { callee := .value (.func 129), args := #[.tmp 6, .tmp 8], argTypes := #[139, 34] } := Option.some.inj ((congrArg (fun z => z.map Oper.op) ho).symm.trans (show ((opsOf 1 Tryz.f126)[4]?).map Oper.op = some (.call { callee := .value (.func 129), args := #[.tmp 6, .tmp 8], argTypes := #[139, 34] }) by kernel_rfl)); exact ⟨_, _, op_call2 (enters_of Tryz.func129 (by kernel_rfl) rfl) he (H.ev (.tmp 6) (.at 3) (by kernel_rfl)) ((frame_eval (N := 14) (d := 8) (by decide)).trans hg1), (q1.out wz h H.kp hg2).mono fun x w2 ⟨h1, h2⟩ => ⟨_, h1, h2, fun _ => rfl⟩⟩
  case fr =>
    refine ⟨?_, trivial⟩
    · intro T wz H o ho; have he : o.op = .buildSlice 34 1 #[(0, .tmp 7)] := Option.some.inj ((congrArg (fun z => z.map Oper.op) ho).symm.trans (show ((opsOf 1 Tryz.f126)[3]?).map Oper.op = some (.buildSlice 34 1 #[(0, .tmp 7)]) by kernel_rfl)); exact ⟨_, _, op_bsN1 he (H.ev (.tmp 7) (.at 2) (by kernel_rfl)), fun _ => ⟨_, rfl, heap_alloc_new _ _⟩, (Kp.refl _ _).alloc _⟩
  case rest =>
    intro T w3 hout hval k hF
    rw [show frameOf vdi1_y.st.N T = (⟨#[T 0, T 1, T 2, T 3, T 4, T 5, T 6, T 7, T 8, T 9, T 10, T 11, T 12, T 13], []⟩ : Act) from frame_list 14 T]
    rw [show T 4 = .string R from hval 9 (by decide : 9 < 10) (.inl rfl)]
    clear hout hval hF h1 h2 q1 q2 q3
    go_wp2
    go_ret
    exact ⟨rfl, k⟩

set_option maxRecDepth 100000 in
set_option maxHeartbeats 4000000 in
theorem vdistance (v : Int) (gn c : Nat) (ns : List Int) (w : World) (hv : v.natAbs ≤ 1000000000000000000) (hs : Nums w gn 0 ns) (hg : gn < w.heap.size) (hb : ∀ n ∈ ns, n.natAbs ≤ 1000000000000000000) (hn0 : 0 < ns.length) (hn : ns.length ≤ 64) (h0 : sqs ns ≠ 0) (hT : Tab w) :
    Calls Tryz.prog 100 #[.int .i64 v, .slice (some ⟨gn, 0, none⟩) ns.length c] w fun e w' => e = .returned (.tuple #[.string (RS ((v * v : Int) / (sqs ns : Int) : Rat)), .int .i64 0]) ∧ Kp [] w w' := by
  have kq : Kp [] w ((w.alloc (.cells #[.int .i64 v] 3 (0, 0))).alloc (.cells #[.slice (some ⟨gn, 0, none⟩) ns.length c] 34 (0, 0))) := ((Kp.refl _ _).alloc _).alloc _
  have e1 : ((w.alloc (.cells #[.int .i64 v] 3 (0, 0))).alloc (.cells #[.slice (some ⟨gn, 0, none⟩) ns.length c] 34 (0, 0))).heap[w.heap.size]? = some (.cells #[.int .i64 v] 3 (0, 0)) := (Below.heap_alloc _ _ _ (by simp)).trans (heap_alloc_new _ _)
  have e2 : ((w.alloc (.cells #[.int .i64 v] 3 (0, 0))).alloc (.cells #[.slice (some ⟨gn, 0, none⟩) ns.length c] 34 (0, 0))).heap[w.heap.size + 1]? = some (.cells #[.slice (some ⟨gn, 0, none⟩) ns.length c] 34 (0, 0)) := by
    have := heap_alloc_new (w.alloc (.cells #[.int .i64 v] 3 (0, 0))) (.cells #[.slice (some ⟨gn, 0, none⟩) ns.length c] 34 (0, 0))
    rwa [World.size_alloc] at this
  generalize hW : (w.alloc (.cells #[.int .i64 v] 3 (0, 0))).alloc (.cells #[.slice (some ⟨gn, 0, none⟩) ns.length c] 34 (0, 0)) = W0 at *
  have hq : Quiet 126 #[.pointer (some ⟨w.heap.size, 0, none⟩), .pointer (some ⟨w.heap.size + 1, 0, none⟩)] W0 (.string (RS ((v * v : Int) / (sqs ns : Int) : Rat))) := by
    intro W g h k
    have kd : Kp [] W0 W.drew := k.drew
    have hd : RE W.drew g 0 := h
    have kw : Kp [] w W.drew := kq.trans kd
    have f1 := (kd.block _ (Array.getElem?_eq_some_iff.1 e1).1 (by exact List.not_mem_nil)).trans e1
    have f2 := (kd.block _ (Array.getElem?_eq_some_iff.1 e2).1 (by exact List.not_mem_nil)).trans e2
    have hsq : (sqs ns).natAbs < 10 ^ 40 := by
      have := sqs_le ns 1000000000000000000 hb ns.length (Nat.le_refl _)
      rw [List.take_length] at this
      have h64 := Nat.mul_le_mul_right (1000000000000000000 * 1000000000000000000) hn
      omega
    have hvv : (v * v).natAbs < 10 ^ 40 := by have := mul_bd hv hv; omega
    exact vdist_in g w.heap.size (w.heap.size + 1) gn ns.length c v (S (v * v)) (S (sqs ns)) _ W f1 f2
      (fun W' gl kk hgl => by
        have q := vsquares g gl 1 [v] W' (hd.kept kk (by simp)) (fun i hi => by
          have : i = 0 := by simpa using hi
          subst this
          simp [World.cell?, hgl]) (Array.getElem?_eq_some_iff.1 hgl).1 (by simpa using hv) (by simp) (by simp) (tab_kp hT (kw.trans kk))
        rwa [show sqs [v] = v * v from Int.zero_add _] at q)
      (fun W' kk => vsquares g gn c ns W' (hd.kept kk (by simp)) (fun i hi => by
          have e : W'.cell? ⟨gn, 0 + i, none⟩ = w.cell? ⟨gn, 0 + i, none⟩ := by unfold World.cell?; simp only [(kw.trans kk).block gn hg (by simp)]
          rw [e]; exact hs i hi) (Nat.lt_of_lt_of_le hg (kw.trans kk).size) hb hn0 hn (tab_kp hT (kw.trans kk)))
      (fun W' kk => rof_0 128 g _ _ _ W' (hd.kept kk (by simp)) (fun W2 => by
        have q := div_c (vsm_int hvv (by omega)) (vsm_int hsq (by omega)) (by omega) (fun e => h0 (Rat.intCast_eq_zero_iff.1 e)) W2
        rwa [vRS_int, vRS_int] at q) (enters_of Tryz.func128 (by kernel_rfl) rfl))
  have qr := Lib.hid (rresult_rat 126 _ _ W0 (enters_of Tryz.func126 (by kernel_rfl) rfl) hq)
  generalize RS ((v * v : Int) / (sqs ns : Int) : Rat) = R at *
  subst hW
  clear hs hg hb hn0 hn h0 hT hq e1 e2 hv
  generalize ns.length = n at *
  go_enter Tryz.func100, Tryz.ntmps100
  go_wp2_with fail
  with_reducible refine qr.out.mono ?_
  rintro e w1 ⟨rfl, k⟩
  go_wp2
  go_ret2
  exact ⟨rfl, kq.trans k⟩

end Go.Proofs.YtegamkilhgekjaaGreatDoor

/- ToLine of package vector. -/
namespace Go.Proofs.YtegamkilhgekjaaGreatDoor
open Go.RowKit
open Go.Lib (nDigits itoa decDigits)

theorem op_bsN2 {a : Act} {w : World} {o : Oper} {x y : Operand} {u v : Int} (h : o.op = .buildSlice 34 2 #[(0, x), (1, y)]) (hx : a.eval x = .int .i64 u) (hy : a.eval y = .int .i64 v) :
    (execOp a.eval o).run Tryz.prog w = .ok (.value (.slice (some ⟨w.heap.size, 0, none⟩) 2 2)) (w.alloc (.cells #[.int .i64 u, .int .i64 v] 3 (0, 0))) := by
  generalize a.eval = r at *
  simp [execOp, h, hx, hy, go_sem]

set_option maxRecDepth 100000 in
set_option maxHeartbeats 4000000 in
theorem vToLine_0 (px py ax ay bx yb v dx dy : Int) (F : Int) (R : ByteArray) (w : World) (q : Hid (∀ W : World, Calls Tryz.prog 30 #[.agg #[.int .i64 px, .int .i64 py], .agg #[.int .i64 ax, .int .i64 ay], .agg #[.int .i64 bx, .int .i64 yb]] W fun e w' => e = .returned (.tuple #[.int .i64 v, .int .i64 0]) ∧ Kp [] W w')) (qm : Hid (∀ W : World, Calls Tryz.prog 62 #[.agg #[.int .i64 bx, .int .i64 yb], .agg #[.int .i64 ax, .int .i64 ay]] W fun e w' => e = .returned (.agg #[.int .i64 dx, .int .i64 dy]) ∧ Kp [] W w'))
    (qd : Hid (∀ W : World, Kp [] w W → Calls Tryz.prog 100 #[.int .i64 v, .slice (some ⟨W.heap.size, 0, none⟩) 2 2] (W.alloc (.cells #[.int .i64 dx, .int .i64 dy] 3 (0, 0))) fun e w' => e = .returned (.tuple #[.string R, .int .i64 F]) ∧ Kp [] (W.alloc (.cells #[.int .i64 dx, .int .i64 dy] 3 (0, 0))) w')) :
    Calls Tryz.prog 44 #[.agg #[.int .i64 px, .int .i64 py], .agg #[.int .i64 ax, .int .i64 ay], .agg #[.int .i64 bx, .int .i64 yb]] w fun e w' => e = .returned (.tuple #[.string R, .int .i64 F]) ∧ Kp [] w w' := by
  have s0 := ((PtB.made w px py).alloc (.cells #[.int .i64 ax, .int .i64 ay] 49 (0, 0))).alloc (.cells #[.int .i64 bx, .int .i64 yb] 49 (0, 0))
  have s1 := (PtB.made (w.alloc (.cells #[.int .i64 px, .int .i64 py] 49 (0, 0))) ax ay).alloc (.cells #[.int .i64 bx, .int .i64 yb] 49 (0, 0))
  have s2 := PtB.made ((w.alloc (.cells #[.int .i64 px, .int .i64 py] 49 (0, 0))).alloc (.cells #[.int .i64 ax, .int .i64 ay] 49 (0, 0))) bx yb
  simp only [World.size_alloc] at s1 s2
  have c00 := s0.c0
  have c01 := s0.c1
  have c10 := s1.c0
  have c11 := s1.c1
  have c20 := s2.c0
  have c21 := s2.c1
  have kk : Kp [] w (((w.alloc (.cells #[.int .i64 px, .int .i64 py] 49 (0, 0))).alloc (.cells #[.int .i64 ax, .int .i64 ay] 49 (0, 0))).alloc (.cells #[.int .i64 bx, .int .i64 yb] 49 (0, 0))) := (((Kp.refl _ _).alloc _).alloc _).alloc _
  go_enter Tryz.func44, Tryz.ntmps44
  go_wp2_with fail
  with_reducible refine (q.out _).mono ?_
  rintro e w1 ⟨rfl, k⟩
  replace kk := kk.trans k
  clear c00 c01 c10 c11 c20 c21 s0
  replace s1 := s1.kept k (by simp)
  have c10 := s1.c0
  have c11 := s1.c1
  replace s2 := s2.kept k (by simp)
  have c20 := s2.c0
  have c21 := s2.c1
  clear k s1 s2
  go_wp2_with fail
  with_reducible refine (qm.out _).mono ?_
  rintro e w2 ⟨rfl, k⟩
  replace kk := kk.trans k
  clear c10 c11 c20 c21 k
  have t := PtB.made w2 dx dy
  have d0 := t.c0
  have d1 := t.c1
  have f0 := t.f 0
  have f1 := t.f 1
  replace kk := kk.alloc (.cells #[.int .i64 dx, .int .i64 dy] 49 (0, 0))
  have qq := Lib.hid (qd.out (w2.alloc (.cells #[.int .i64 dx, .int .i64 dy] 49 (0, 0))) kk)
  simp only [World.size_alloc] at qq
  replace kk := kk.alloc (.cells #[.int .i64 dx, .int .i64 dy] 3 (0, 0))
  clear t
  go_wp2_with (refine wpList_stepN rfl (op_bsN2 rfl rfl rfl) (by simp only [Act.put, World.size_alloc, List.setIfInBounds_toArray, List.set_cons_succ, List.set_cons_zero]; rfl) ?_)
  with_reducible refine qq.out.mono ?_
  rintro e w3 ⟨rfl, k⟩
  replace kk := kk.trans k
  clear k qq
  go_wp2
  go_ret2
  exact ⟨rfl, kk⟩

end Go.Proofs.YtegamkilhgekjaaGreatDoor

/- ToSegment of package vector. -/
namespace Go.Proofs.YtegamkilhgekjaaGreatDoor
open Go.RowKit
open Go.Lib (nDigits itoa decDigits)

theorem op_leq {a : Act} {w : World} {o : Oper} {x : Operand} {v : Int} {b : Bool} (h : o.op = .binOp .leq 3 x (.const (.int .i64 0)) 3) (hx : a.eval x = .int .i64 v) (hb : decide (v ≤ 0) = b) :
    (execOp a.eval o).run Tryz.prog w = .ok (.value (.bool b)) w := by
  have hc : a.eval (.const (.int .i64 0)) = .int .i64 0 := rfl
  subst hb
  generalize a.eval = r at *
  simp [execOp, h, hx, hc, go_sem]

def vsg4f_s : RSt := ⟨9, 49, 3, fun i => ([18, 19, 20, 21, 22, 23, 24, 25, 17] : List Nat).getD i 0, fun i => ([0, 0, 1, 0, 0, 1, 1, 0, 0] : List Nat).getD i 0, fun i => ([0, 0, 0, 0, 0, 1, 2, 0, 0] : List Nat).getD i 0, fun i => ([9, 9, 9, 9, 9, 9, 9, 9, 9, 9, 9, 9, 9, 9, 9, 9, 9, 8, 0, 1, 2, 3, 4, 5, 6, 7, 9, 9, 9, 9, 9, 9, 9, 9, 9, 9, 9, 9, 9, 9, 9, 9, 9, 9, 9, 9, 9, 9, 9, 9] : List Nat).getD i 9, fun i => ([2, 5, 6] : List Nat).getD i 0, fun _ => false, fun _ => true, fun _ => 0, fun _ => false⟩
def vsg4f_y : RSy := ⟨vsg4f_s, fun i => ([.at 4, .at 5, .at 6, .at 7, .at 5, .at 8, .at 3, .bool false, .bool false] : List SV).getD i .un, [(3, .at 2), (4, .at 1), (5, .at 0)], fun i => ([false, false, true, false, false, true, true, false, false] : List Bool).getD i false⟩
def vsg4f_ca : List (Nat × Nat × List SV) := [(2, 62, [.at 4, .at 5]), (5, 62, [.at 7, .at 5]), (6, 82, [.at 6, .at 8])]
theorem vsg4f_ok : reflOk (opsOf 4 Tryz.f46) vsg4f_y [0, 1, 3, 4, 7] vsg4f_ca [] [] = true := by kernel_rfl

def vsg6t_s : RSt := ⟨9, 49, 3, fun i => ([31, 32, 33, 34, 35, 36, 37, 38, 30] : List Nat).getD i 0, fun i => ([0, 0, 1, 0, 0, 1, 1, 0, 0] : List Nat).getD i 0, fun i => ([0, 0, 0, 0, 0, 1, 2, 0, 0] : List Nat).getD i 0, fun i => ([9, 9, 9, 9, 9, 9, 9, 9, 9, 9, 9, 9, 9, 9, 9, 9, 9, 9, 9, 9, 9, 9, 9, 9, 9, 9, 9, 9, 9, 9, 8, 0, 1, 2, 3, 4, 5, 6, 7, 9, 9, 9, 9, 9, 9, 9, 9, 9, 9, 9] : List Nat).getD i 9, fun i => ([2, 5, 6] : List Nat).getD i 0, fun _ => false, fun _ => true, fun _ => 0, fun _ => false⟩
def vsg6t_y : RSy := ⟨vsg6t_s, fun i => ([.at 4, .at 5, .at 6, .at 7, .at 5, .at 8, .at 3, .bool true, .bool true] : List SV).getD i .un, [(3, .at 2), (4, .at 0), (5, .at 1)], fun i => ([false, false, true, false, false, true, true, false, false] : List Bool).getD i false⟩
def vsg6t_ca : List (Nat × Nat × List SV) := [(2, 62, [.at 4, .at 5]), (5, 62, [.at 7, .at 5]), (6, 82, [.at 6, .at 8])]
theorem vsg6t_ok : reflOk (opsOf 6 Tryz.f46) vsg6t_y [0, 1, 3, 4, 7] vsg6t_ca [] [] = true := by kernel_rfl

set_option maxRecDepth 100000 in
set_option maxHeartbeats 4000000 in
theorem vToSegment_2 (px py ax ay bx yb u1x u1y u2x u2y d12 u3x u3y u4x u4y d34 s : Int) (R : ByteArray) (w : World)
    (qc : Hid (∀ W : World, Calls Tryz.prog 20 #[.slice (some ⟨W.heap.size, 0, none⟩) 3 3] (W.alloc (.cells #[.int .i64 px, .int .i64 py, .int .i64 ax, .int .i64 ay, .int .i64 bx, .int .i64 yb] 49 (0, 0))) fun e w' => e = .returned (.int .i64 0) ∧ Kp [] (W.alloc (.cells #[.int .i64 px, .int .i64 py, .int .i64 ax, .int .i64 ay, .int .i64 bx, .int .i64 yb] 49 (0, 0))) w'))
    (q1 : Hid (∀ W : World, Calls Tryz.prog 62 #[.agg #[.int .i64 bx, .int .i64 yb], .agg #[.int .i64 ax, .int .i64 ay]] W fun e w' => e = .returned (.agg #[.int .i64 u1x, .int .i64 u1y]) ∧ Kp [] W w'))
    (q2 : Hid (∀ W : World, Calls Tryz.prog 62 #[.agg #[.int .i64 px, .int .i64 py], .agg #[.int .i64 ax, .int .i64 ay]] W fun e w' => e = .returned (.agg #[.int .i64 u2x, .int .i64 u2y]) ∧ Kp [] W w'))
    (qd12 : Hid (∀ W : World, Calls Tryz.prog 82 #[.agg #[.int .i64 u1x, .int .i64 u1y], .agg #[.int .i64 u2x, .int .i64 u2y]] W fun e w' => e = .returned (.int .i64 d12) ∧ Kp [] W w'))
    (hd12 : decide (d12 ≤ 0) = false)
    (q3 : Hid (∀ W : World, Calls Tryz.prog 62 #[.agg #[.int .i64 ax, .int .i64 ay], .agg #[.int .i64 bx, .int .i64 yb]] W fun e w' => e = .returned (.agg #[.int .i64 u3x, .int .i64 u3y]) ∧ Kp [] W w'))
    (q4 : Hid (∀ W : World, Calls Tryz.prog 62 #[.agg #[.int .i64 px, .int .i64 py], .agg #[.int .i64 bx, .int .i64 yb]] W fun e w' => e = .returned (.agg #[.int .i64 u4x, .int .i64 u4y]) ∧ Kp [] W w'))
    (qd34 : Hid (∀ W : World, Calls Tryz.prog 82 #[.agg #[.int .i64 u3x, .int .i64 u3y], .agg #[.int .i64 u4x, .int .i64 u4y]] W fun e w' => e = .returned (.int .i64 d34) ∧ Kp [] W w'))
    (hd34 : decide (d34 ≤ 0) = true)
    (qs : Hid (∀ W : World, Calls Tryz.prog 91 #[.agg #[.int .i64 bx, .int .i64 yb], .agg #[.int .i64 px, .int .i64 py]] W fun e w' => e = .returned (.int .i64 s) ∧ Kp [] W w'))
    (qw : Hid (∀ W : World, Kp [] w W → Calls Tryz.prog 103 #[.int .i64 s] W fun e w' => e = .returned (.string R) ∧ Kp [] W w')) :
    Calls Tryz.prog 46 #[.agg #[.int .i64 px, .int .i64 py], .agg #[.int .i64 ax, .int .i64 ay], .agg #[.int .i64 bx, .int .i64 yb]] w fun e w' => e = .returned (.tuple #[.string R, .int .i64 0]) ∧ Kp [] w w' := by
  have sp0 := PtB.made w px py
  have sp : PtB (((w.alloc (.cells #[.int .i64 px, .int .i64 py] 49 (0, 0))).alloc (.cells #[.int .i64 ax, .int .i64 ay] 49 (0, 0))).alloc (.cells #[.int .i64 bx, .int .i64 yb] 49 (0, 0))) (w.heap.size) px py := ((sp0).alloc (.cells #[.int .i64 ax, .int .i64 ay] 49 (0, 0))).alloc (.cells #[.int .i64 bx, .int .i64 yb] 49 (0, 0))
  have sa0 := PtB.made (w.alloc (.cells #[.int .i64 px, .int .i64 py] 49 (0, 0))) ax ay
  simp only [World.size_alloc] at sa0
  have sa : PtB (((w.alloc (.cells #[.int .i64 px, .int .i64 py] 49 (0, 0))).alloc (.cells #[.int .i64 ax, .int .i64 ay] 49 (0, 0))).alloc (.cells #[.int .i64 bx, .int .i64 yb] 49 (0, 0))) (w.heap.size + 1) ax ay := (sa0).alloc (.cells #[.int .i64 bx, .int .i64 yb] 49 (0, 0))
  have sb0 := PtB.made ((w.alloc (.cells #[.int .i64 px, .int .i64 py] 49 (0, 0))).alloc (.cells #[.int .i64 ax, .int .i64 ay] 49 (0, 0))) bx yb
  simp only [World.size_alloc] at sb0
  have sb : PtB (((w.alloc (.cells #[.int .i64 px, .int .i64 py] 49 (0, 0))).alloc (.cells #[.int .i64 ax, .int .i64 ay] 49 (0, 0))).alloc (.cells #[.int .i64 bx, .int .i64 yb] 49 (0, 0))) (w.heap.size + 1 + 1) bx yb := sb0
  have k0 : Kp [] w (((w.alloc (.cells #[.int .i64 px, .int .i64 py] 49 (0, 0))).alloc (.cells #[.int .i64 ax, .int .i64 ay] 49 (0, 0))).alloc (.cells #[.int .i64 bx, .int .i64 yb] 49 (0, 0))) := (((Kp.refl _ _).alloc _).alloc _).alloc _
  have xp0 := sp.c0
  have xp1 := sp.c1
  have xa0 := sa.c0
  have xa1 := sa.c1
  have xb0 := sb.c0
  have xb1 := sb.c1
  have qq := Lib.hid (qc.out (((w.alloc (.cells #[.int .i64 px, .int .i64 py] 49 (0, 0))).alloc (.cells #[.int .i64 ax, .int .i64 ay] 49 (0, 0))).alloc (.cells #[.int .i64 bx, .int .i64 yb] 49 (0, 0))))
  simp only [World.size_alloc] at qq
  replace sp := sp.alloc (.cells #[.int .i64 px, .int .i64 py, .int .i64 ax, .int .i64 ay, .int .i64 bx, .int .i64 yb] 49 (0, 0))
  replace sa := sa.alloc (.cells #[.int .i64 px, .int .i64 py, .int .i64 ax, .int .i64 ay, .int .i64 bx, .int .i64 yb] 49 (0, 0))
  replace sb := sb.alloc (.cells #[.int .i64 px, .int .i64 py, .int .i64 ax, .int .i64 ay, .int .i64 bx, .int .i64 yb] 49 (0, 0))
  replace k0 := k0.alloc (.cells #[.int .i64 px, .int .i64 py, .int .i64 ax, .int .i64 ay, .int .i64 bx, .int .i64 yb] 49 (0, 0))
  clear qc sp0 sa0 sb0
  go_enter Tryz.func46, Tryz.ntmps46
  go_wp2_with (refine wpList_stepN rfl (op_bsP3 rfl rfl rfl rfl) (by simp only [Act.put, World.size_alloc, List.setIfInBounds_toArray, List.set_cons_succ, List.set_cons_zero]; rfl) ?_)
  with_reducible refine qq.out.mono ?_
  rintro e w1 ⟨rfl, k⟩
  have kk := k0.trans k
  replace sp := sp.kept k (by simp)
  replace sa := sa.kept k (by simp)
  replace sb := sb.kept k (by simp)
  clear k k0 qq xp0 xp1 xa0 xa1 xb0 xb1
  go_wp2_with fail
  rw [frame_lit]
  refine reg_refl vsg4f_y (fun k => ([.pointer (some ⟨w.heap.size + 1 + 1, 0, none⟩), .pointer (some ⟨w.heap.size + 1, 0, none⟩), .pointer (some ⟨w.heap.size, 0, none⟩), .int .i64 d12, .agg #[.int .i64 bx, .int .i64 yb], .agg #[.int .i64 ax, .int .i64 ay], .agg #[.int .i64 u1x, .int .i64 u1y], .agg #[.int .i64 px, .int .i64 py], .agg #[.int .i64 u2x, .int .i64 u2y]] : List Value).getD k undef) [] (fun _ _ _ => True) (opsOf 4 Tryz.f46) [0, 1, 3, 4, 7] vsg4f_ca [] [] (by kernel_rfl) (by kernel_rfl) vsg4f_ok ⟨rfl, rfl, rfl, trivial⟩ ?sp ?ca ?cx (by decide) ?fr (fun _ _ _ _ h _ => h) ?rest
  case sp =>
    refine ⟨?_, ?_, ?_, ?_, ?_, trivial⟩
    · intro T wz H o ho; have he : o.op = .load 49 (.tmp 5) := Option.some.inj ((congrArg (fun z => z.map Oper.op) ho).symm.trans (show ((opsOf 4 Tryz.f46)[0]?).map Oper.op = some (.load 49 (.tmp 5)) by kernel_rfl)); exact op_ldP he (H.ev (.tmp 5) (.at 0) (by kernel_rfl)) (PtB.kept (L := []) (show PtB (World.drew _) _ _ _ from sb) H.kp (by simp))
    · intro T wz H o ho; have he : o.op = .load 49 (.tmp 4) := Option.some.inj ((congrArg (fun z => z.map Oper.op) ho).symm.trans (show ((opsOf 4 Tryz.f46)[1]?).map Oper.op = some (.load 49 (.tmp 4)) by kernel_rfl)); exact op_ldP he (H.ev (.tmp 4) (.at 1) (by kernel_rfl)) (PtB.kept (L := []) (show PtB (World.drew _) _ _ _ from sa) H.kp (by simp))
    · intro T wz H o ho; have he : o.op = .load 49 (.tmp 3) := Option.some.inj ((congrArg (fun z => z.map Oper.op) ho).symm.trans (show ((opsOf 4 Tryz.f46)[3]?).map Oper.op = some (.load 49 (.tmp 3)) by kernel_rfl)); exact op_ldP he (H.ev (.tmp 3) (.at 2) (by kernel_rfl)) (PtB.kept (L := []) (show PtB (World.drew _) _ _ _ from sp) H.kp (by simp))
    · intro T wz H o ho; have he : o.op = .load 49 (.tmp 4) := Option.some.inj ((congrArg (fun z => z.map Oper.op) ho).symm.trans (show ((opsOf 4 Tryz.f46)[4]?).map Oper.op = some (.load 49 (.tmp 4)) by kernel_rfl)); exact op_ldP he (H.ev (.tmp 4) (.at 1) (by kernel_rfl)) (PtB.kept (L := []) (show PtB (World.drew _) _ _ _ from sa) H.kp (by simp))
    · intro T wz H o ho; have he : o.op = .binOp .leq 3 (.tmp 24) (.const (.int .i64 0)) 3 := Option.some.inj ((congrArg (fun z => z.map Oper.op) ho).symm.trans (show ((opsOf 4 Tryz.f46)[7]?).map Oper.op = some (.binOp .leq 3 (.tmp 24) (.const (.int .i64 0)) 3) by kernel_rfl)); exact op_leq he (H.ev (.tmp 24) (.at 3) (by kernel_rfl)) hd12
  case ca =>
    refine ⟨?_, ?_, ?_, trivial⟩
    · exact ⟨(enters_of Tryz.func62 (by kernel_rfl) rfl), fun wz hk => (q1.out wz).mono fun x w2 ⟨h1, h2⟩ => ⟨_, h1, h2, fun _ => rfl⟩⟩
    · exact ⟨(enters_of Tryz.func62 (by kernel_rfl) rfl), fun wz hk => (q2.out wz).mono fun x w2 ⟨h1, h2⟩ => ⟨_, h1, h2, fun _ => rfl⟩⟩
    · exact ⟨(enters_of Tryz.func82 (by kernel_rfl) rfl), fun wz hk => (qd12.out wz).mono fun x w2 ⟨h1, h2⟩ => ⟨_, h1, h2, fun _ => rfl⟩⟩
  case cx =>
    exact trivial
  case fr =>
    exact trivial
  case rest =>
    intro T w3 hout hval k hF
    rw [show frameOf vsg4f_y.st.N T = (⟨#[T 0, T 1, T 2, T 3, T 4, T 5, T 6, T 7, T 8, T 9, T 10, T 11, T 12, T 13, T 14, T 15, T 16, T 17, T 18, T 19, T 20, T 21, T 22, T 23, T 24, T 25, T 26, T 27, T 28, T 29, T 30, T 31, T 32, T 33, T 34, T 35, T 36, T 37, T 38, T 39, T 40, T 41, T 42, T 43, T 44, T 45, T 46, T 47, T 48], []⟩ : Act) from frame_list 49 T]
    rw [show T 3 = .pointer (some ⟨w.heap.size, 0, none⟩) from hout 3 rfl]
    rw [show T 4 = .pointer (some ⟨w.heap.size + 1, 0, none⟩) from hout 4 rfl]
    rw [show T 5 = .pointer (some ⟨w.heap.size + 1 + 1, 0, none⟩) from hout 5 rfl]
    rw [show T 17 = .bool false from hval 8 (by decide : 8 < 9) (.inl rfl)]
    replace sp := sp.kept k (by simp)
    replace sa := sa.kept k (by simp)
    replace sb := sb.kept k (by simp)
    replace kk := kk.trans k
    clear hout hval hF k
    go_wp2_with fail
    rw [frame_lit]
    refine reg_refl vsg6t_y (fun k => ([.pointer (some ⟨w.heap.size + 1, 0, none⟩), .pointer (some ⟨w.heap.size + 1 + 1, 0, none⟩), .pointer (some ⟨w.heap.size, 0, none⟩), .int .i64 d34, .agg #[.int .i64 ax, .int .i64 ay], .agg #[.int .i64 bx, .int .i64 yb], .agg #[.int .i64 u3x, .int .i64 u3y], .agg #[.int .i64 px, .int .i64 py], .agg #[.int .i64 u4x, .int .i64 u4y]] : List Value).getD k undef) [] (fun _ _ _ => True) (opsOf 6 Tryz.f46) [0, 1, 3, 4, 7] vsg6t_ca [] [] (by kernel_rfl) (by kernel_rfl) vsg6t_ok ⟨rfl, rfl, rfl, trivial⟩ ?sp ?ca ?cx (by decide) ?fr (fun _ _ _ _ h _ => h) ?rest
    case sp =>
      refine ⟨?_, ?_, ?_, ?_, ?_, trivial⟩
      · intro T wz H o ho; have he : o.op = .load 49 (.tmp 4) := Option.some.inj ((congrArg (fun z => z.map Oper.op) ho).symm.trans (show ((opsOf 6 Tryz.f46)[0]?).map Oper.op = some (.load 49 (.tmp 4)) by kernel_rfl)); exact op_ldP he (H.ev (.tmp 4) (.at 0) (by kernel_rfl)) (PtB.kept (L := []) (show PtB (World.drew _) _ _ _ from sa) H.kp (by simp))
      · intro T wz H o ho; have he : o.op = .load 49 (.tmp 5) := Option.some.inj ((congrArg (fun z => z.map Oper.op) ho).symm.trans (show ((opsOf 6 Tryz.f46)[1]?).map Oper.op = some (.load 49 (.tmp 5)) by kernel_rfl)); exact op_ldP he (H.ev (.tmp 5) (.at 1) (by kernel_rfl)) (PtB.kept (L := []) (show PtB (World.drew _) _ _ _ from sb) H.kp (by simp))
      · intro T wz H o ho; have he : o.op = .load 49 (.tmp 3) := Option.some.inj ((congrArg (fun z => z.map Oper.op) ho).symm.trans (show ((opsOf 6 Tryz.f46)[3]?).map Oper.op = some (.load 49 (.tmp 3)) by kernel_rfl)); exact op_ldP he (H.ev (.tmp 3) (.at 2) (by kernel_rfl)) (PtB.kept (L := []) (show PtB (World.drew _) _ _ _ from sp) H.kp (by simp))
      · intro T wz H o ho; have he : o.op = .load 49 (.tmp 5) := Option.some.inj ((congrArg (fun z => z.map Oper.op) ho).symm.trans (show ((opsOf 6 Tryz.f46)[4]?).map Oper.op = some (.load 49 (.tmp 5)) by kernel_rfl)); exact op_ldP he (H.ev (.tmp 5) (.at 1) (by kernel_rfl)) (PtB.kept (L := []) (show PtB (World.drew _) _ _ _ from sb) H.kp (by simp))
      · intro T wz H o ho; have he : o.op = .binOp .leq 3 (.tmp 37) (.const (.int .i64 0)) 3 := Option.some.inj ((congrArg (fun z => z.map Oper.op) ho).symm.trans (show ((opsOf 6 Tryz.f46)[7]?).map Oper.op = some (.binOp .leq 3 (.tmp 37) (.const (.int .i64 0)) 3) by kernel_rfl)); exact op_leq he (H.ev (.tmp 37) (.at 3) (by kernel_rfl)) hd34
    case ca =>
      refine ⟨?_, ?_, ?_, trivial⟩
      · exact ⟨(enters_of Tryz.func62 (by kernel_rfl) rfl), fun wz hk => (q3.out wz).mono fun x w2 ⟨h1, h2⟩ => ⟨_, h1, h2, fun _ => rfl⟩⟩
      · exact ⟨(enters_of Tryz.func62 (by kernel_rfl) rfl), fun wz hk => (q4.out wz).mono fun x w2 ⟨h1, h2⟩ => ⟨_, h1, h2, fun _ => rfl⟩⟩
      · exact ⟨(enters_of Tryz.func82 (by kernel_rfl) rfl), fun wz hk => (qd34.out wz).mono fun x w2 ⟨h1, h2⟩ => ⟨_, h1, h2, fun _ => rfl⟩⟩
    case cx =>
      exact trivial
    case fr =>
      exact trivial
    case rest =>
      intro T w4 hout hval k hF
      rw [show frameOf vsg6t_y.st.N T = (⟨#[T 0, T 1, T 2, T 3, T 4, T 5, T 6, T 7, T 8, T 9, T 10, T 11, T 12, T 13, T 14, T 15, T 16, T 17, T 18, T 19, T 20, T 21, T 22, T 23, T 24, T 25, T 26, T 27, T 28, T 29, T 30, T 31, T 32, T 33, T 34, T 35, T 36, T 37, T 38, T 39, T 40, T 41, T 42, T 43, T 44, T 45, T 46, T 47, T 48], []⟩ : Act) from frame_list 49 T]
      rw [show T 3 = .pointer (some ⟨w.heap.size, 0, none⟩) from hout 3 rfl]
      rw [show T 4 = .pointer (some ⟨w.heap.size + 1, 0, none⟩) from hout 4 rfl]
      rw [show T 5 = .pointer (some ⟨w.heap.size + 1 + 1, 0, none⟩) from hout 5 rfl]
      rw [show T 30 = .bool true from hval 8 (by decide : 8 < 9) (.inl rfl)]
      replace sp := sp.kept k (by simp)
      replace sa := sa.kept k (by simp)
      replace sb := sb.kept k (by simp)
      replace kk := kk.trans k
      clear hout hval hF k
      have xb0 := sb.c0
      have xb1 := sb.c1
      have xp0 := sp.c0
      have xp1 := sp.c1
      clear sp sa sb
      go_wp2_with fail
      with_reducible refine (qs.out _).mono ?_
      rintro e w5 ⟨rfl, k⟩
      replace kk := kk.trans k
      clear k
      have qw1 := Lib.hid (qw.out _ kk)
      clear xb0 xb1 xp0 xp1
      go_wp2_with fail
      with_reducible refine qw1.out.mono ?_
      rintro e w6 ⟨rfl, k⟩
      replace kk := kk.trans k
      clear k
      go_wp2
      go_ret2
      exact ⟨rfl, kk⟩

end Go.Proofs.YtegamkilhgekjaaGreatDoor
