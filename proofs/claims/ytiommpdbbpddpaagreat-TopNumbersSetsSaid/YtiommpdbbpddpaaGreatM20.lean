/- Texts RProd, RProd2: each says in its own first comment what it proves. -/
import Derived.Test.YtiommpdbbpddpaaGreatM18
/- What the reference's product keeps: columns, their weights and carries; a block of ints. -/
namespace Go.Proofs.YtiommpdbbpddpaaGreat
open Go.RowKit
open Go.Lib (nDigits itoa decDigits)

/-- the weight of the last j columns of n -/
def ts (f : Nat → Nat) (n : Nat) : Nat → Nat
  | 0 => 0
  | j + 1 => ts f n j + f (n - 1 - j) * 10 ^ j
theorem ts_upd (f : Nat → Nat) (n p x : Nat) (hp : p < n) : ∀ j : Nat, j ≤ n → ts (upd f p (f p + x)) n j = ts f n j + (if n - 1 - p < j then x * 10 ^ (n - 1 - p) else 0)
  | 0, _ => by simp [ts]
  | j + 1, hj => by
    have ih := ts_upd f n p x hp j (by omega)
    show ts _ n j + upd f p (f p + x) (n - 1 - j) * 10 ^ j = (ts f n j + f (n - 1 - j) * 10 ^ j) + _
    rw [ih]
    by_cases h : n - 1 - j = p
    · have e : n - 1 - p = j := by omega
      unfold upd
      rw [if_pos h, h, e, if_neg (by omega), if_pos (by omega), Nat.add_mul]; omega
    · unfold upd
      rw [if_neg h]
      by_cases h2 : n - 1 - p < j
      · rw [if_pos h2, if_pos (by omega)]; omega
      · rw [if_neg h2, if_neg (by omega)]; omega
theorem ts_zero (n : Nat) : ∀ j : Nat, ts (fun _ => 0) n j = 0
  | 0 => rfl
  | j + 1 => by show ts _ n j + 0 * _ = 0; rw [ts_zero n j]; omega
theorem ts_bound {f : Nat → Nat} {n M : Nat} (h : ∀ p, f p ≤ M) : ∀ j : Nat, ts f n j ≤ M * 10 ^ j
  | 0 => by show 0 ≤ _; omega
  | j + 1 => by
    have ih := ts_bound (n := n) h j
    have h2 := Nat.mul_le_mul_right (10 ^ j) (h (n - 1 - j))
    show ts f n j + _ ≤ _
    rw [Nat.pow_succ, ← Nat.mul_assoc]; omega
theorem ts_more (f : Nat → Nat) (n j : Nat) : ∀ d : Nat, ∃ Y, ts f n (j + d) = ts f n j + 10 ^ j * Y
  | 0 => ⟨0, by simp⟩
  | d + 1 => by
    obtain ⟨Y, hY⟩ := ts_more f n j d
    refine ⟨Y + f (n - 1 - (j + d)) * 10 ^ d, ?_⟩
    show ts f n (j + d) + f (n - 1 - (j + d)) * 10 ^ (j + d) = _
    rw [hY, Nat.mul_add, Nat.pow_add, Nat.mul_left_comm (10 ^ j)]; omega
/-- the carry behind j columns -/
def cr (f : Nat → Nat) (n j : Nat) : Nat := ts f n j / 10 ^ j
theorem cr_sum (f : Nat → Nat) (n j : Nat) : cr f n j + f (n - 1 - j) = ts f n (j + 1) / 10 ^ j := by
  unfold cr
  show _ = (ts f n j + f (n - 1 - j) * 10 ^ j) / 10 ^ j
  rw [Nat.add_mul_div_right _ _ (ten_pos j)]
theorem cr_succ (f : Nat → Nat) (n j : Nat) : cr f n (j + 1) = (cr f n j + f (n - 1 - j)) / 10 := by
  rw [cr_sum]
  unfold cr
  rw [Nat.pow_succ, ← Nat.div_div_eq_div_mul]
theorem cr_digit (f : Nat → Nat) (n j : Nat) (hj : j < n) : (cr f n j + f (n - 1 - j)) % 10 = ts f n n / 10 ^ j % 10 := by
  rw [cr_sum]
  obtain ⟨Y, hY⟩ := ts_more f n (j + 1) (n - (j + 1))
  rw [show j + 1 + (n - (j + 1)) = n by omega] at hY
  rw [hY, Nat.pow_succ, Nat.mul_assoc, Nat.add_mul_div_left _ _ (ten_pos j), Nat.add_mul_mod_self_left]
theorem cr_le {f : Nat → Nat} {n M : Nat} (h : ∀ p, f p ≤ M) (j : Nat) : cr f n j ≤ M :=
  Nat.div_le_of_le_mul (by rw [Nat.mul_comm]; exact ts_bound h j)
theorem cr_zero (f : Nat → Nat) (n : Nat) : cr f n 0 = 0 := by unfold cr ts; rfl
/-- the value of the first i of l digits -/
def hd10 (u l i : Nat) : Nat := u / 10 ^ (l - i) * 10 ^ (l - i)
theorem hd10_zero {u l : Nat} (h : u < 10 ^ l) : hd10 u l 0 = 0 := by unfold hd10; rw [Nat.sub_zero, Nat.div_eq_of_lt h]; simp
theorem hd10_all (u l : Nat) : hd10 u l l = u := by unfold hd10; simp
theorem hd10_succ (u l i : Nat) (hi : i < l) : hd10 u l (i + 1) = hd10 u l i + u / 10 ^ (l - 1 - i) % 10 * 10 ^ (l - 1 - i) := by
  unfold hd10
  rw [show l - (i + 1) = l - 1 - i by omega, show l - i = (l - 1 - i) + 1 by omega, Nat.pow_succ, ← Nat.div_div_eq_div_mul]
  have h := Nat.div_add_mod (u / 10 ^ (l - 1 - i)) 10
  generalize u / 10 ^ (l - 1 - i) = z at *
  generalize 10 ^ (l - 1 - i) = p
  rw [← Nat.mul_assoc, Nat.mul_right_comm, ← Nat.add_mul]
  congr 1
  omega
/-- the sum that stands in the columns -/
theorem col_step (u v la lb i k : Nat) (hi : i < la) (hk : k < lb) :
    hd10 u la i * v + u / 10 ^ (la - 1 - i) % 10 * 10 ^ (la - 1 - i) * hd10 v lb k + (u / 10 ^ (la - 1 - i) % 10) * (v / 10 ^ (lb - 1 - k) % 10) * 10 ^ (la + lb - 1 - (i + k + 1)) =
      hd10 u la i * v + u / 10 ^ (la - 1 - i) % 10 * 10 ^ (la - 1 - i) * hd10 v lb (k + 1) := by
  rw [hd10_succ v lb k hk, Nat.mul_add, show la + lb - 1 - (i + k + 1) = (la - 1 - i) + (lb - 1 - k) by omega, Nat.pow_add]
  generalize u / 10 ^ (la - 1 - i) % 10 = x
  generalize v / 10 ^ (lb - 1 - k) % 10 = y
  generalize 10 ^ (la - 1 - i) = p
  generalize 10 ^ (lb - 1 - k) = q
  have e : x * y * (p * q) = x * p * (y * q) := by rw [Nat.mul_assoc, Nat.mul_left_comm y, Nat.mul_assoc x p]
  omega
theorem col_next (u v la lb i : Nat) (hi : i < la) : hd10 u la i * v + u / 10 ^ (la - 1 - i) % 10 * 10 ^ (la - 1 - i) * hd10 v lb lb = hd10 u la (i + 1) * v := by
  rw [hd10_all, hd10_succ u la i hi, Nat.add_mul]

/-- block h holds n ints f -/
def Col (w : World) (h n : Nat) (f : Nat → Nat) : Prop :=
  ∃ cs T, w.heap[h]? = some (.cells cs T (0, 0)) ∧ cs.size = n ∧ ∀ i, i < n → cs[i]? = some (.int .i64 (f i : Int))
section
variable {w w' : World} {h n i : Nat} {f : Nat → Nat}
theorem Col.lt (hb : Col w h n f) : h < w.heap.size := by
  obtain ⟨cs, T, hb, _⟩ := hb
  rcases Nat.lt_or_ge h w.heap.size with hlt | hge
  · exact hlt
  · rw [Array.getElem?_eq_none hge] at hb; cases hb
theorem Col.int (hb : Col w h n f) (hi : i < n) : w.cell? ⟨h, i, none⟩ = some (.int .i64 (f i : Int)) := by
  obtain ⟨cs, T, hb, hs, hw⟩ := hb
  simp [World.cell?, hb, hw i hi]
theorem Col.free (hb : Col w h n f) (i : Nat) : w.frozen? ⟨h, i, none⟩ = false := by
  obtain ⟨cs, T, hb, _⟩ := hb
  simp [World.frozen?, hb]
theorem Col.same (hb : Col w h n f) (e : w'.heap[h]? = w.heap[h]?) : Col w' h n f := by
  obtain ⟨cs, T, h1, h2⟩ := hb
  exact ⟨cs, T, e.trans h1, h2⟩
theorem Col.far (hb : Col w h n f) {p : Addr} (hp : h ≠ p.block) (u : Value) : Col (w.setCell p u) h n f := hb.same (Below.heap_setCell w p u h hp)
theorem Col.alloc (hb : Col w h n f) (o : Obj) : Col (w.alloc o) h n f := hb.same (Below.heap_alloc w o h hb.lt)
theorem Col.drewN (hb : Col w h n f) (k : Nat) : Col (w.drewN k) h n f := hb
theorem Col.drew (hb : Col w h n f) : Col w.drew h n f := hb
theorem Col.set_ (hb : Col w h n f) (hi : i < n) {x : Nat} {y : Int} (e : y = (x : Int)) : Col (w.setCell ⟨h, i, none⟩ (.int .i64 y)) h n (upd f i x) := by
  obtain ⟨cs, T, h1, h2, h3⟩ := hb
  subst e
  refine ⟨cs.setIfInBounds i (.int .i64 (x : Int)), T, by simp [World.setCell, Array.getElem?_modify, h1], by simpa using h2, fun j hj => ?_⟩
  unfold upd
  rw [Array.getElem?_setIfInBounds]
  by_cases e : i = j
  · subst e; simp; omega
  · rw [if_neg e, if_neg (fun h => e h.symm)]; exact h3 j hj
end
theorem i64_info : (Tryz.prog.info? 3).map (fun i => (i.zero, i.size, i.bytes)) = some (some (.int .i64 0), 1, 8) := by kernel_rfl
theorem make_ints (n : Nat) (hn : n ≤ 1000000) (w : World) :
    (Instr.makeSlice 118 (.int .i64 (n : Int)) (.int .i64 (n : Int))).run Tryz.prog w = .ok (.slice (some ⟨w.heap.size, 0, none⟩) n n) (w.alloc (.cells (madeCells #[.int .i64 0] n) 3)) := by
  have hi := i64_info
  cases hq : Tryz.prog.info? 3 with
  | none => rw [hq] at hi; cases hi
  | some i =>
    rw [hq] at hi
    simp only [Option.map_some, Option.some.injEq, Prod.mk.injEq] at hi
    have hr := run_make (P := Tryz.prog) w 118 3 i (.int .i64 0) Tryz.underlying118 hq hi.1 .i64 .i64 n n (by omega) (by omega) (by rw [hi.2.2]; omega) (by omega)
    rw [hi.2.1, show (Value.int .i64 0).cells = #[Value.int .i64 0] from rfl] at hr
    simpa using hr
theorem Col.made (w : World) (n : Nat) : Col (w.alloc (.cells (madeCells #[.int .i64 0] n) 3)) w.heap.size n (fun _ => 0) := by
  refine ⟨_, _, heap_alloc_new w _, size_madeCells _ _, fun i hi => ?_⟩
  simp [madeCells, hi, Nat.mod_one]
theorem S_at (u i : Nat) (h : i < (S (u : Int)).size) : ((S (u : Int))[i]).toNat = 48 + u / 10 ^ (nDigits u - 1 - i) % 10 := by
  have hl : (S (u : Int)).data.toList = decDigits u := by rw [S_list, itoa_nn]
  have hs : (S (u : Int)).size = nDigits u := by have := (S_nn (z := (u : Int)) (by omega)).2; rwa [Int.natAbs_natCast, Nat.add_zero] at this
  rw [← dec_getD (by omega), ← hl]
  have hlen : i < (S (u : Int)).data.toList.length := by rw [← Lib.size_eq]; exact h
  rw [List.getD_eq_getElem?_getD, List.getElem?_eq_getElem hlen]
  rfl
end Go.Proofs.YtiommpdbbpddpaaGreat

/- The reference's product: all pairs of digits. -/
namespace Go.Proofs.YtiommpdbbpddpaaGreat
open Go.RowKit
open Go.Lib (nDigits itoa decDigits)

theorem wrap_in {z : Int} (h : -9223372036854775808 ≤ z ∧ z ≤ 9223372036854775807) : wrap64 z = z := by
  unfold wrap64; omega

set_option maxRecDepth 100000 in
set_option maxHeartbeats 8000000 in
theorem prod_core (A B : ByteArray) (u v la lb : Nat) (res : ByteArray) (w : World) (hA : A.size = la) (hB : B.size = lb) (ha1 : 1 ≤ la) (hb1 : 1 ≤ lb) (ha : la ≤ 3000) (hb : lb ≤ 3000)
    (hu : u < 10 ^ la) (hv : v < 10 ^ lb)
    (hAt : Hid (∀ j (h : j < A.size), A[j].toNat = 48 + u / 10 ^ (la - 1 - j) % 10)) (hBt : Hid (∀ j (h : j < B.size), B[j].toNat = 48 + v / 10 ^ (lb - 1 - j) % 10))
    (hbare : Hid (∀ W, Calls Tryz.prog 100 #[.string (wideB (u * v) (la + lb))] W fun e w' => e = .returned (.string res) ∧ W = w')) :
    Calls Tryz.prog 81 #[.string A, .string B] w fun e w' => e = .returned (.string res) ∧ Kp [] w w' := by
  obtain ⟨n, hn⟩ : ∃ n, n = la + lb := ⟨_, rfl⟩
  have hAi : (A.size : Int) = (la : Int) := by omega
  have hBi : (B.size : Int) = (lb : Int) := by omega
  have hni : (la : Int) + (lb : Int) = (n : Int) := by omega
  have hmk : ∀ W : World, (Instr.makeSlice 118 (.int .i64 (n : Int)) (.int .i64 (n : Int))).run Tryz.prog W = .ok (.slice (some ⟨W.heap.size, 0, none⟩) n n) (W.alloc (.cells (madeCells #[.int .i64 0] n) 3)) := fun W => make_ints n (by omega) W
  have hmk2 : ∀ W : World, (Instr.makeSlice 110 (.int .i64 (n : Int)) (.int .i64 (n : Int))).run Tryz.prog W = .ok (.slice (some ⟨W.heap.size, 0, none⟩) n n) (W.alloc (.cells (madeCells #[.int .u8 0] n) 5)) := fun W => make_bytes n (by omega) W
  have hco0 : Col (w.alloc (.cells (madeCells #[.int .i64 0] n) 3)) w.heap.size n (fun _ => 0) := Col.made w n
  have hkp0 : Kp [] w (w.alloc (.cells (madeCells #[.int .i64 0] n) 3)) := (Kp.refl _ _).alloc _
  have Hn := Lib.hid hn
  have HA := Lib.hid hA
  have HB := Lib.hid hB
  rw [← hn] at hbare
  clear hA hB hn
  go_enter Tryz.func81, Tryz.ntmps81
  go_wp2_with fail
  clear hmk
  go_loopw [6] (fun s6 wr => ∃ (i : Nat) (f : Nat → Nat), i ≤ la ∧ s6 = .int .i64 i ∧ Col wr w.heap.size n f ∧ Hid (ts f n n = hd10 u la i * v) ∧ (∀ p, f p ≤ 81 * i) ∧ Kp [] w wr)
    (fun i _ => la - (intOf i).toNat)
  case atStart => exact ⟨0, fun _ => 0, Nat.zero_le _, rfl, hco0, by show _ = _; rw [ts_zero, hd10_zero hu, Nat.zero_mul], fun _ => Nat.zero_le _, hkp0⟩
  case round =>
    obtain ⟨i, f, hi, rfl, hco, hts, hfb, hkp⟩ := hrel
    clear hco0 hkp0
    by_cases hlt : i < la
    · have hA1 : i < A.size := by have := HA.out; omega
      have ea := hAt.out i hA1
      go_wp2_with fail
      obtain ⟨wo, hwo⟩ : ∃ wo : World, wo = wr := ⟨_, rfl⟩
      subst hwo
      go_loopw [7] (fun s7 wq => ∃ (k : Nat) (f : Nat → Nat), k ≤ lb ∧ s7 = .int .i64 k ∧ Col wq w.heap.size n f ∧ Hid (ts f n n = hd10 u la i * v + u / 10 ^ (la - 1 - i) % 10 * 10 ^ (la - 1 - i) * hd10 v lb k) ∧ (∀ p, f p ≤ 81 * i + (if p < i + k + 1 then 81 else 0)) ∧ Kp [] w wq)
        (fun k _ => lb - (intOf k).toNat)
      case atStart => exact ⟨0, f, Nat.zero_le _, rfl, hco, by show _ = _; rw [hts.out, hd10_zero hv, Nat.mul_zero, Nat.add_zero], fun p => Nat.le_trans (hfb p) (Nat.le_add_right _ _), hkp⟩
      case round =>
        obtain ⟨k, f2, hk, rfl, hco2, hts2, hfb2, hkp2⟩ := hrel
        by_cases hlt2 : k < lb
        · have hB1 : k < B.size := by have := HB.out; omega
          have eb := hBt.out k hB1
          have hin : i + k + 1 < n := by have := Hn.out; omega
          have hcell := hco2.int hin
          have hfree := hco2.free (i + k + 1)
          have hfp := hfb2 (i + k + 1)
          rw [if_neg (by omega), Nat.add_zero] at hfp
          obtain ⟨x, hx⟩ : ∃ x, x = u / 10 ^ (la - 1 - i) % 10 := ⟨_, rfl⟩
          obtain ⟨y, hy⟩ : ∃ y, y = v / 10 ^ (lb - 1 - k) % 10 := ⟨_, rfl⟩
          have hx9 : x ≤ 9 := by rw [hx]; omega
          have hy9 : y ≤ 9 := by rw [hy]; omega
          rw [← hx] at ea
          rw [← hy] at eb
          have eai : ((A[i].toNat : Nat) : Int) = 48 + (x : Int) := by omega
          have ebi : ((B[k].toNat : Nat) : Int) = 48 + (y : Int) := by omega
          obtain ⟨z, hz⟩ : ∃ z, x * y = z := ⟨_, rfl⟩
          have hz81 : z ≤ 81 := by rw [← hz]; exact Nat.mul_le_mul hx9 hy9
          have hzi : (x : Int) * (y : Int) = (z : Int) := by rw [← hz]; simp
          obtain ⟨q, hq⟩ : ∃ q, q = f2 (i + k + 1) := ⟨_, rfl⟩
          have Hq := Lib.hid hq
          rw [← hq] at hcell hfp
          have hnew : Hid (ts (upd f2 (i + k + 1) (q + z)) n n = hd10 u la i * v + u / 10 ^ (la - 1 - i) % 10 * 10 ^ (la - 1 - i) * hd10 v lb (k + 1)) := by
            show _ = _
            rw [hq, ts_upd f2 n (i + k + 1) z hin n (Nat.le_refl _), if_pos (by omega), hts2.out, ← hz, hx, hy, ← col_step u v la lb i k hlt hlt2, Hn.out]
          have hbi2 : (i : Int) + (k : Int) + 1 < (n : Int) := by omega
          have c1 : (i : Int) < (la : Int) := by omega
          have c2 : (k : Int) < (lb : Int) := by omega
          have t1 : ((i : Int) + (k : Int) + 1).toNat = i + k + 1 := by omega
          have v1 : IntKind.i64.wrap ((i : Int) + (k : Int)) = (i : Int) + (k : Int) := IntWalk.i64_in _ (by omega)
          have v2 : IntKind.i64.wrap ((i : Int) + (k : Int) + 1) = (i : Int) + (k : Int) + 1 := IntWalk.i64_in _ (by omega)
          have v3 : IntKind.u8.wrap (x : Int) = (x : Int) := IntWalk.u8_in _ (by omega)
          have v4 : IntKind.u8.wrap (y : Int) = (y : Int) := IntWalk.u8_in _ (by omega)
          have v5 : IntKind.i64.wrap (x : Int) = (x : Int) := IntWalk.i64_in _ (by omega)
          have v6 : IntKind.i64.wrap (y : Int) = (y : Int) := IntWalk.i64_in _ (by omega)
          have v7 : IntKind.i64.wrap (z : Int) = (z : Int) := IntWalk.i64_in _ (by omega)
          have v8 : IntKind.i64.wrap ((q : Int) + (z : Int)) = (q : Int) + (z : Int) := IntWalk.i64_in _ (by omega)
          have key : wrap64 ((q : Int) + wrap64 ((48 + (x : Int) - 48) * (48 + (y : Int) - 48))) = ((q + z : Nat) : Int) := by
            rw [show 48 + (x : Int) - 48 = x by omega, show 48 + (y : Int) - 48 = y by omega, hzi, wrap_in (z := (z : Int)) (by omega), wrap_in (by omega)]; omega
          clear hx hy hz hq ea eb
          go_wp2
          go_region
          go_wp2
          go_roundw
          case rel =>
            refine ⟨k + 1, _, by omega, by go_num, (hco2.set_ (i := i + k + 1) (x := q + z) (by omega) (show (q : Int) + (z : Int) = ((q + z : Nat) : Int) by omega)).drew, hnew, fun p => ?_, (hkp2.setCell (.inr (Nat.le_refl _)) _).drew⟩
            unfold upd
            by_cases hp : p = i + k + 1
            · rw [if_pos hp, if_pos (by omega)]; omega
            · rw [if_neg hp]
              have := hfb2 p
              by_cases h3 : p < i + k + 1
              · rw [if_pos h3] at this; rw [if_pos (by omega)]; omega
              · rw [if_neg h3] at this; rw [if_neg (by omega)]; omega
          case measure => simp [intOf]; omega
        · obtain rfl : k = lb := by omega
          go_wp2_with fail
          go_roundw
          case rel =>
            refine ⟨i + 1, f2, by omega, by go_num, hco2, ?_, fun p => ?_, hkp2⟩
            · show _ = _
              rw [hts2.out, col_next u v la k i hlt]
            · have := hfb2 p
              split at this <;> omega
          case measure => simp [intOf]; omega
    · obtain rfl : i = la := by omega
      have hW : ts f n n = u * v := by rw [hts.out, hd10_all]
      have hco3 : Col (wr.alloc (.cells (madeCells #[.int .u8 0] n) 5)) w.heap.size n f := hco.alloc _
      have hby3 : Byt (wr.alloc (.cells (madeCells #[.int .u8 0] n) 5)) wr.heap.size n (fun _ => 0) := Byt.made wr n
      have hkp3 : Kp [] w (wr.alloc (.cells (madeCells #[.int .u8 0] n) 5)) := hkp.alloc _
      have hhw : w.heap.size ≤ wr.heap.size := hkp.size
      have hhl := hco.lt
      have HW := Lib.hid hW
      have Hfb := Lib.hid hfb
      obtain ⟨h, hh⟩ : ∃ h, h = wr.heap.size := ⟨_, rfl⟩
      rw [← hh] at hby3 hhw hhl
      go_wp2_with fail
      rw [← hh]
      clear hco hkp hts hmk2 hW hfb hh
      go_loopg [9, 10] n (fun gk s9 s10 wq => ∃ c : Int, s10 = .int .i64 c ∧ c + 1 = gk ∧ gk ≤ n ∧ s9 = .int .i64 ((cr f n (n - gk) : Nat) : Int) ∧ Col wq w.heap.size n f ∧ Byt wq h n (mix (fun _ => 0) (dgt (u * v) n) gk) ∧ Kp [] w wq)
      case atStart => exact ⟨_, rfl, by omega, Nat.le_refl _, by rw [Nat.sub_self, cr_zero]; rfl, hco3, hby3.congr fun j hj => (mix_lt (fun _ => 0) _ hj).symm, hkp3⟩
      case round =>
        obtain ⟨c, rfl, hc, hg, rfl, hco4, hby4, hkp4⟩ := hrel
        cases gk with
        | zero =>
          obtain rfl : c = -1 := by omega
          clear hc
          have hcv := conv_bytes 9 Tryz.underlying9 hby4 0 n n (by omega)
          rw [mix_zero, show strOf (dgt (u * v) n) 0 n = wideB (u * v) n from rfl] at hcv
          go_wp2_with fail
          refine (hbare.out _).mono ?_
          rintro e w3 ⟨rfl, rfl⟩
          go_wp2
          go_ret
          exact ⟨rfl, hkp4⟩
        | succ j =>
          obtain rfl : c = (j : Int) := by omega
          clear hc
          have hjn : j < n := by omega
          have hji : (j : Int) < (n : Int) := by omega
          have hcol := hco4.int hjn
          have hbj := hby4.byte hjn
          have hfj := hby4.free j
          have hcl := cr_le (n := n) Hfb.out (n - (j + 1))
          have hfj2 := Hfb.out j
          obtain ⟨t, ht⟩ : ∃ t, t = cr f n (n - (j + 1)) := ⟨_, rfl⟩
          obtain ⟨q, hq⟩ : ∃ q, q = f j := ⟨_, rfl⟩
          have ej : n - 1 - (n - (j + 1)) = j := by omega
          have hdig : Hid (48 + (t + q) % 10 = dgt (u * v) n j) := by
            show _ = _
            have e := cr_digit f n (n - (j + 1)) (by omega)
            rw [ej] at e
            rw [ht, hq, e, HW.out]
            unfold dgt
            rw [show n - 1 - j = n - (j + 1) by omega]
          have hcar : Hid ((t + q) / 10 = cr f n (n - j)) := by
            show _ = _
            have e := cr_succ f n (n - (j + 1))
            rw [ej, show n - (j + 1) + 1 = n - j by omega] at e
            rw [ht, hq, e]
          rw [← ht] at hcl ⊢
          rw [← hq] at hcol hfj2
          have hla : i ≤ 3000 := ha
          clear ht hq
          go_wp2_with fail
          go_roundg j
          case measure => omega
          case rel =>
            refine ⟨_, rfl, by omega, by omega, val_i (by have := hcar.out; omega), hco4.far (p := ⟨h, j, none⟩) (by show w.heap.size ≠ h; omega) _, ?_, hkp4.setCell (.inr (by show w.heap.size ≤ h; omega)) _⟩
            rw [← mix_down]; exact hby4.set_ hjn (by have := hdig.out; omega)

theorem prod_S (u v : Nat) (w : World) (hu : nDigits u ≤ 2400) (hv : nDigits v ≤ 2400) :
    Calls Tryz.prog 81 #[.string (S (u : Int)), .string (S (v : Int))] w fun e w' => e = .returned (.string (S ((u * v : Nat) : Int))) ∧ Kp [] w w' := by
  have s1 : (S (u : Int)).size = nDigits u := by have := (S_nn (z := (u : Int)) (by omega)).2; rwa [Int.natAbs_natCast, Nat.add_zero] at this
  have s2 : (S (v : Int)).size = nDigits v := by have := (S_nn (z := (v : Int)) (by omega)).2; rwa [Int.natAbs_natCast, Nat.add_zero] at this
  have p1 := Go.Lib.nDigits_pos u
  have p2 := Go.Lib.nDigits_pos v
  refine prod_core (S u) (S v) u v (nDigits u) (nDigits v) _ w s1 s2 p1 p2 (by omega) (by omega) (Go.Lib.lt_pow_nDigits u) (Go.Lib.lt_pow_nDigits v) (fun j h => S_at u j h) (fun j h => S_at v j h) ?_
  intro W
  have := bare_any (wideB (u * v) (nDigits u + nDigits v)) W (by rw [wideB_size]; omega) (by rw [wideB_size]; omega) (wideB_dig _ _)
  rwa [wideB_val, Nat.mod_eq_of_lt (by rw [Nat.pow_add]; exact Nat.mul_lt_mul'' (Go.Lib.lt_pow_nDigits u) (Go.Lib.lt_pow_nDigits v))] at this
end Go.Proofs.YtiommpdbbpddpaaGreat
