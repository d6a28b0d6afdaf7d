/- Texts RProd: each says in its own first comment what it proves. -/
import Derived.Test.YtminjcknmhgpiaaGreatDoorM27
/- What the reference's product keeps: columns, their weights and carries; a block of ints. -/
namespace Go.Proofs.YtminjcknmhgpiaaGreatDoor
open Go.RowKit
open Go.Lib (nDigits itoa decDigits)

/-- the weight of the last j columns of n -/
def ts (f : Nat → Nat) (n : Nat) : Nat → Nat
  | 0 => 0
  | j + 1 => ts f n j + f (n - 1 - j) * 10 ^ j
theorem ts_upd (f : Nat → Nat) (n p x : Nat) (hp : p < n) : ∀ j : Nat, j ≤ n → ts (upd f p (f p + x)) n j = ts f n j + (if n - 1 - p < j then x * 10 ^ (n - 1 - p) else 0)
  | 0, _ => by simp [ts]
  | j + 1, hj => by
    have ih := ts_upd f n p x hp j (by omega)
    show ts _ n j + upd f p (f p + x) (n - 1 - j) * 10 ^ j = (ts f n j + f (n - 1 - j) * 10 ^ j) + _
    rw [ih]
    by_cases h : n - 1 - j = p
    · have e : n - 1 - p = j := by omega
      unfold upd
      rw [if_pos h, h, e, if_neg (by omega), if_pos (by omega), Nat.add_mul]; omega
    · unfold upd
      rw [if_neg h]
      by_cases h2 : n - 1 - p < j
      · rw [if_pos h2, if_pos (by omega)]; omega
      · rw [if_neg h2, if_neg (by omega)]; omega
theorem ts_zero (n : Nat) : ∀ j : Nat, ts (fun _ => 0) n j = 0
  | 0 => rfl
  | j + 1 => by show ts _ n j + 0 * _ = 0; rw [ts_zero n j]; omega
theorem ts_bound {f : Nat → Nat} {n M : Nat} (h : ∀ p, f p ≤ M) : ∀ j : Nat, ts f n j ≤ M * 10 ^ j
  | 0 => by show 0 ≤ _; omega
  | j + 1 => by
    have ih := ts_bound (n := n) h j
    have h2 := Nat.mul_le_mul_right (10 ^ j) (h (n - 1 - j))
    show ts f n j + _ ≤ _
    rw [Nat.pow_succ, ← Nat.mul_assoc]; omega
theorem ts_more (f : Nat → Nat) (n j : Nat) : ∀ d : Nat, ∃ Y, ts f n (j + d) = ts f n j + 10 ^ j * Y
  | 0 => ⟨0, by simp⟩
  | d + 1 => by
    obtain ⟨Y, hY⟩ := ts_more f n j d
    refine ⟨Y + f (n - 1 - (j + d)) * 10 ^ d, ?_⟩
    show ts f n (j + d) + f (n - 1 - (j + d)) * 10 ^ (j + d) = _
    rw [hY, Nat.mul_add, Nat.pow_add, Nat.mul_left_comm (10 ^ j)]; omega
/-- the carry behind j columns -/
def cr (f : Nat → Nat) (n j : Nat) : Nat := ts f n j / 10 ^ j
theorem cr_sum (f : Nat → Nat) (n j : Nat) : cr f n j + f (n - 1 - j) = ts f n (j + 1) / 10 ^ j := by
  unfold cr
  show _ = (ts f n j + f (n - 1 - j) * 10 ^ j) / 10 ^ j
  rw [Nat.add_mul_div_right _ _ (ten_pos j)]
theorem cr_succ (f : Nat → Nat) (n j : Nat) : cr f n (j + 1) = (cr f n j + f (n - 1 - j)) / 10 := by
  rw [cr_sum]
  unfold cr
  rw [Nat.pow_succ, ← Nat.div_div_eq_div_mul]
theorem cr_digit (f : Nat → Nat) (n j : Nat) (hj : j < n) : (cr f n j + f (n - 1 - j)) % 10 = ts f n n / 10 ^ j % 10 := by
  rw [cr_sum]
  obtain ⟨Y, hY⟩ := ts_more f n (j + 1) (n - (j + 1))
  rw [show j + 1 + (n - (j + 1)) = n by omega] at hY
  rw [hY, Nat.pow_succ, Nat.mul_assoc, Nat.add_mul_div_left _ _ (ten_pos j), Nat.add_mul_mod_self_left]
theorem cr_le {f : Nat → Nat} {n M : Nat} (h : ∀ p, f p ≤ M) (j : Nat) : cr f n j ≤ M :=
  Nat.div_le_of_le_mul (by rw [Nat.mul_comm]; exact ts_bound h j)
theorem cr_zero (f : Nat → Nat) (n : Nat) : cr f n 0 = 0 := by unfold cr ts; rfl
/-- the value of the first i of l digits -/
def hd10 (u l i : Nat) : Nat := u / 10 ^ (l - i) * 10 ^ (l - i)
theorem hd10_zero {u l : Nat} (h : u < 10 ^ l) : hd10 u l 0 = 0 := by unfold hd10; rw [Nat.sub_zero, Nat.div_eq_of_lt h]; simp
theorem hd10_all (u l : Nat) : hd10 u l l = u := by unfold hd10; simp
theorem hd10_succ (u l i : Nat) (hi : i < l) : hd10 u l (i + 1) = hd10 u l i + u / 10 ^ (l - 1 - i) % 10 * 10 ^ (l - 1 - i) := by
  unfold hd10
  rw [show l - (i + 1) = l - 1 - i by omega, show l - i = (l - 1 - i) + 1 by omega, Nat.pow_succ, ← Nat.div_div_eq_div_mul]
  have h := Nat.div_add_mod (u / 10 ^ (l - 1 - i)) 10
  generalize u / 10 ^ (l - 1 - i) = z at *
  generalize 10 ^ (l - 1 - i) = p
  rw [← Nat.mul_assoc, Nat.mul_right_comm, ← Nat.add_mul]
  congr 1
  omega
/-- the sum that stands in the columns -/
theorem col_step (u v la lb i k : Nat) (hi : i < la) (hk : k < lb) :
    hd10 u la i * v + u / 10 ^ (la - 1 - i) % 10 * 10 ^ (la - 1 - i) * hd10 v lb k + (u / 10 ^ (la - 1 - i) % 10) * (v / 10 ^ (lb - 1 - k) % 10) * 10 ^ (la + lb - 1 - (i + k + 1)) =
      hd10 u la i * v + u / 10 ^ (la - 1 - i) % 10 * 10 ^ (la - 1 - i) * hd10 v lb (k + 1) := by
  rw [hd10_succ v lb k hk, Nat.mul_add, show la + lb - 1 - (i + k + 1) = (la - 1 - i) + (lb - 1 - k) by omega, Nat.pow_add]
  generalize u / 10 ^ (la - 1 - i) % 10 = x
  generalize v / 10 ^ (lb - 1 - k) % 10 = y
  generalize 10 ^ (la - 1 - i) = p
  generalize 10 ^ (lb - 1 - k) = q
  have e : x * y * (p * q) = x * p * (y * q) := by rw [Nat.mul_assoc, Nat.mul_left_comm y, Nat.mul_assoc x p]
  omega
theorem col_next (u v la lb i : Nat) (hi : i < la) : hd10 u la i * v + u / 10 ^ (la - 1 - i) % 10 * 10 ^ (la - 1 - i) * hd10 v lb lb = hd10 u la (i + 1) * v := by
  rw [hd10_all, hd10_succ u la i hi, Nat.add_mul]

/-- block h holds n ints f -/
def Col (w : World) (h n : Nat) (f : Nat → Nat) : Prop :=
  ∃ cs T, w.heap[h]? = some (.cells cs T (0, 0)) ∧ cs.size = n ∧ ∀ i, i < n → cs[i]? = some (.int .i64 (f i : Int))
section
variable {w w' : World} {h n i : Nat} {f : Nat → Nat}
theorem Col.lt (hb : Col w h n f) : h < w.heap.size := by
  obtain ⟨cs, T, hb, _⟩ := hb
  rcases Nat.lt_or_ge h w.heap.size with hlt | hge
  · exact hlt
  · rw [Array.getElem?_eq_none hge] at hb; cases hb
theorem Col.int (hb : Col w h n f) (hi : i < n) : w.cell? ⟨h, i, none⟩ = some (.int .i64 (f i : Int)) := by
  obtain ⟨cs, T, hb, hs, hw⟩ := hb
  simp [World.cell?, hb, hw i hi]
theorem Col.free (hb : Col w h n f) (i : Nat) : w.frozen? ⟨h, i, none⟩ = false := by
  obtain ⟨cs, T, hb, _⟩ := hb
  simp [World.frozen?, hb]
theorem Col.same (hb : Col w h n f) (e : w'.heap[h]? = w.heap[h]?) : Col w' h n f := by
  obtain ⟨cs, T, h1, h2⟩ := hb
  exact ⟨cs, T, e.trans h1, h2⟩
theorem Col.far (hb : Col w h n f) {p : Addr} (hp : h ≠ p.block) (u : Value) : Col (w.setCell p u) h n f := hb.same (Below.heap_setCell w p u h hp)
theorem Col.alloc (hb : Col w h n f) (o : Obj) : Col (w.alloc o) h n f := hb.same (Below.heap_alloc w o h hb.lt)
theorem Col.drewN (hb : Col w h n f) (k : Nat) : Col (w.drewN k) h n f := hb
theorem Col.drew (hb : Col w h n f) : Col w.drew h n f := hb
theorem Col.set_ (hb : Col w h n f) (hi : i < n) {x : Nat} {y : Int} (e : y = (x : Int)) : Col (w.setCell ⟨h, i, none⟩ (.int .i64 y)) h n (upd f i x) := by
  obtain ⟨cs, T, h1, h2, h3⟩ := hb
  subst e
  refine ⟨cs.setIfInBounds i (.int .i64 (x : Int)), T, by simp [World.setCell, Array.getElem?_modify, h1], by simpa using h2, fun j hj => ?_⟩
  unfold upd
  rw [Array.getElem?_setIfInBounds]
  by_cases e : i = j
  · subst e; simp; omega
  · rw [if_neg e, if_neg (fun h => e h.symm)]; exact h3 j hj
end
theorem i64_info : (Tryz.prog.info? 3).map (fun i => (i.zero, i.size, i.bytes)) = some (some (.int .i64 0), 1, 8) := by kernel_rfl
theorem make_ints (n : Nat) (hn : n ≤ 1000000) (w : World) :
    (Instr.makeSlice 162 (.int .i64 (n : Int)) (.int .i64 (n : Int))).run Tryz.prog w = .ok (.slice (some ⟨w.heap.size, 0, none⟩) n n) (w.alloc (.cells (madeCells #[.int .i64 0] n) 3)) := by
  have hi := i64_info
  cases hq : Tryz.prog.info? 3 with
  | none => rw [hq] at hi; cases hi
  | some i =>
    rw [hq] at hi
    simp only [Option.map_some, Option.some.injEq, Prod.mk.injEq] at hi
    have hr := run_make (P := Tryz.prog) w 162 3 i (.int .i64 0) Tryz.underlying162 hq hi.1 .i64 .i64 n n (by omega) (by omega) (by rw [hi.2.2]; omega) (by omega)
    rw [hi.2.1, show (Value.int .i64 0).cells = #[Value.int .i64 0] from rfl] at hr
    simpa using hr
theorem Col.made (w : World) (n : Nat) : Col (w.alloc (.cells (madeCells #[.int .i64 0] n) 3)) w.heap.size n (fun _ => 0) := by
  refine ⟨_, _, heap_alloc_new w _, size_madeCells _ _, fun i hi => ?_⟩
  simp [madeCells, hi, Nat.mod_one]
theorem S_at (u i : Nat) (h : i < (S (u : Int)).size) : ((S (u : Int))[i]).toNat = 48 + u / 10 ^ (nDigits u - 1 - i) % 10 := by
  have hl : (S (u : Int)).data.toList = decDigits u := by rw [S_list, itoa_nn]
  have hs : (S (u : Int)).size = nDigits u := by have := (S_nn (z := (u : Int)) (by omega)).2; rwa [Int.natAbs_natCast, Nat.add_zero] at this
  rw [← dec_getD (by omega), ← hl]
  have hlen : i < (S (u : Int)).data.toList.length := by rw [← Lib.size_eq]; exact h
  rw [List.getD_eq_getElem?_getD, List.getElem?_eq_getElem hlen]
  rfl
end Go.Proofs.YtminjcknmhgpiaaGreatDoor
