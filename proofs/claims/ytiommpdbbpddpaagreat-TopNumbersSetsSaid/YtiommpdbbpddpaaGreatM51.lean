/- Texts RTimes, RegF, Binom, Play: each says in its own first comment what it proves. -/
import Derived.Test.YtiommpdbbpddpaaGreatM20
import Derived.Test.YtiommpdbbpddpaaGreatM19
import Derived.Test.YtiommpdbbpddpaaGreatM29
import Derived.Test.YtiommpdbbpddpaaGreatM08
import Derived.Test.YtiommpdbbpddpaaGreatM04
import Derived.Test.YtiommpdbbpddpaaGreatM06
import Derived.Test.YtiommpdbbpddpaaGreatM33
/- The reference's Times: the product of two integers. -/
namespace Go.Proofs.YtiommpdbbpddpaaGreat
open Go.RowKit
open Go.Lib (nDigits itoa decDigits)

set_option exponentiation.threshold 5000 in
theorem nd_mul {u v : Nat} (hu : nDigits u ≤ 1200) (hv : nDigits v ≤ 1200) : nDigits (u * v) ≤ 2400 := by
  have h1 := (nd_le_iff (u := u) (k := 1200) (by omega)).1 hu
  have h2 := (nd_le_iff (u := v) (k := 1200) (by omega)).1 hv
  refine (nd_le_iff (by omega)).2 ?_
  rw [show 2400 = 1200 + 1200 from rfl, Nat.pow_add]
  exact Nat.mul_lt_mul'' h1 h2
theorem mul_signed (x y : Int) : (if (!(decide (x < 0) == decide (y < 0))) = true then -((x.natAbs * y.natAbs : Nat) : Int) else ((x.natAbs * y.natAbs : Nat) : Int)) = x * y := by
  have hx : (x.natAbs : Int) = if x < 0 then -x else x := by split <;> omega
  have hy : (y.natAbs : Int) = if y < 0 then -y else y := by split <;> omega
  rw [Int.natCast_mul, hx, hy]
  by_cases h1 : x < 0 <;> by_cases h2 : y < 0 <;> simp [h1, h2, Int.neg_mul, Int.mul_neg]
theorem short_mul {x y : Int} (h : (S x).size + (S y).size ≤ 18) : -1000000000000000000 < x * y ∧ x * y < 1000000000000000000 := by
  have hx : nDigits x.natAbs ≤ (S x).size := by
    by_cases hz : x < 0
    · have := (S_neg hz).2; omega
    · have := (S_nn hz).2; omega
  have hy : nDigits y.natAbs ≤ (S y).size := by
    by_cases hz : y < 0
    · have := (S_neg hz).2; omega
    · have := (S_nn hz).2; omega
  have h1 := Go.Lib.lt_pow_nDigits x.natAbs
  have h2 := Go.Lib.lt_pow_nDigits y.natAbs
  have h3 : x.natAbs * y.natAbs < 10 ^ 18 := by
    refine Nat.lt_of_lt_of_le (Nat.mul_lt_mul'' h1 h2) ?_
    rw [← Nat.pow_add]; exact Nat.pow_le_pow_right (by decide) (by omega)
  rw [← Int.natAbs_mul] at h3
  have e : 10 ^ 18 = 1000000000000000000 := rfl
  omega

set_option maxRecDepth 100000 in
set_option maxHeartbeats 4000000 in
theorem times_ref (x y : Int) (w : World) (hx : nDigits x.natAbs ≤ 1200) (hy : nDigits y.natAbs ≤ 1200) :
    Calls Tryz.prog 57 #[.string (S x), .string (S y)] w fun e w' => e = .returned (.string (S (x * y))) ∧ Kp [] w w' := by
  have sx := abs_sz hx
  have sy := abs_sz hy
  by_cases hb : Brief x y
  · by_cases h18 : (S x).size + (S y).size ≤ 18
    · have q1 := Lib.hid (fun W => brief_S x y W (by omega) (by omega) hb)
      obtain ⟨m1, m2⟩ := short_mul h18
      have q2 := Lib.hid (fun W => of_any (x * y) W (by omega) (by omega))
      have hd : decide (((S x).size : Int) + ((S y).size : Int) ≤ 18) = true := decide_eq_true (by omega)
      obtain ⟨z, hz⟩ : ∃ z, x * y = z := ⟨_, rfl⟩
      rw [hz] at q2 m1 m2 ⊢
      have hz2 : ((S x).size : Int) ≤ 18 := by omega
      have hz3 : ((S y).size : Int) ≤ 18 := by omega
      generalize S z = r at *
      generalize S x = s at *
      generalize S y = t at *
      clear hb hx hy sx sy h18
      go_enter Tryz.func57, Tryz.ntmps57
      go_wp2_with fail
      refine (q1.out _).mono ?_
      rintro e w1 ⟨rfl, rfl⟩
      go_wp2_with fail
      refine (q2.out _).mono ?_
      rintro e w2 ⟨rfl, k2⟩
      go_wp2
      go_ret
      exact ⟨rfl, k2⟩
    · have q1 := Lib.hid (fun W => brief_S x y W (by omega) (by omega) hb)
      have hd : decide (((S x).size : Int) + ((S y).size : Int) ≤ 18) = false := decide_eq_false (by omega)
      have hg : ¬ ((S x).size : Int) + ((S y).size : Int) ≤ 18 := by omega
      have hz2 : ((S x).size : Int) ≤ 2000 := by omega
      have hz3 : ((S y).size : Int) ≤ 2000 := by omega
      have q2 := size_S x (by omega)
      have q3 := size_S y (by omega)
      have q4 := Lib.hid (fun W => below_any x W)
      have q5 := Lib.hid (fun W => below_any y W)
      have q7 := Lib.hid (fun W => prod_S x.natAbs y.natAbs W (by omega) (by omega))
      have q8 := Lib.hid (fun W => signed_any (x.natAbs * y.natAbs) (!(decide (x < 0) == decide (y < 0))) W (Nat.le_trans (abs_sz (k := 2400) (by rw [Int.natAbs_natCast]; exact nd_mul hx hy)) (by omega)))
      rw [mul_signed] at q8
      generalize S (x * y) = r at *
      generalize S ((x.natAbs * y.natAbs : Nat) : Int) = p at *
      generalize S (x.natAbs : Int) = m at *
      generalize S (y.natAbs : Int) = n at *
      generalize S x = s at *
      generalize S y = t at *
      generalize decide (x < 0) = d at *
      generalize decide (y < 0) = f at *
      clear hb hx hy sx sy h18
      go_enter Tryz.func57, Tryz.ntmps57
      go_wp2_with fail
      refine (q1.out _).mono ?_
      rintro e w1 ⟨rfl, rfl⟩
      go_wp2_with fail
      refine (q2.out _).mono ?_
      rintro e w2 ⟨rfl, rfl⟩
      go_wp2_with fail
      refine (q3.out _).mono ?_
      rintro e w3 ⟨rfl, rfl⟩
      go_wp2_with fail
      refine (q7.out _).mono ?_
      rintro e w7 ⟨rfl, k7⟩
      go_wp2_with fail
      refine (q4.out _).mono ?_
      rintro e w4 ⟨rfl, rfl⟩
      go_wp2_with fail
      refine (q5.out _).mono ?_
      rintro e w5 ⟨rfl, rfl⟩
      go_wp2_with fail
      refine (q8.out _).mono ?_
      rintro e w8 ⟨rfl, rfl⟩
      go_wp2
      go_ret
      exact ⟨rfl, k7⟩
  · have q1 := Lib.hid (fun W => brief_not x y W (by omega) (by omega) hb)
    have q2 := size_S x (by omega)
    have q3 := size_S y (by omega)
    have q4 := Lib.hid (fun W => below_any x W)
    have q5 := Lib.hid (fun W => below_any y W)
    have q7 := Lib.hid (fun W => prod_S x.natAbs y.natAbs W (by omega) (by omega))
    have q8 := Lib.hid (fun W => signed_any (x.natAbs * y.natAbs) (!(decide (x < 0) == decide (y < 0))) W (Nat.le_trans (abs_sz (k := 2400) (by rw [Int.natAbs_natCast]; exact nd_mul hx hy)) (by omega)))
    rw [mul_signed] at q8
    generalize S (x * y) = r at *
    generalize S ((x.natAbs * y.natAbs : Nat) : Int) = p at *
    generalize S (x.natAbs : Int) = m at *
    generalize S (y.natAbs : Int) = n at *
    generalize S x = s at *
    generalize S y = t at *
    generalize decide (x < 0) = d at *
    generalize decide (y < 0) = f at *
    clear hb hx hy sx sy
    go_enter Tryz.func57, Tryz.ntmps57
    go_wp2_with fail
    refine (q1.out _).mono ?_
    rintro e w1 ⟨rfl, rfl⟩
    go_wp2_with fail
    refine (q2.out _).mono ?_
    rintro e w2 ⟨rfl, rfl⟩
    go_wp2_with fail
    refine (q3.out _).mono ?_
    rintro e w3 ⟨rfl, rfl⟩
    go_wp2_with fail
    refine (q7.out _).mono ?_
    rintro e w7 ⟨rfl, k7⟩
    go_wp2_with fail
    refine (q4.out _).mono ?_
    rintro e w4 ⟨rfl, rfl⟩
    go_wp2_with fail
    refine (q5.out _).mono ?_
    rintro e w5 ⟨rfl, rfl⟩
    go_wp2_with fail
    refine (q8.out _).mono ?_
    rintro e w8 ⟨rfl, rfl⟩
    go_wp2
    go_ret
    exact ⟨rfl, k7⟩

end Go.Proofs.YtiommpdbbpddpaaGreat

/- reg_seq and reg_refl once more: a property of the world that the chain hands on, which may speak of the values of the operations that are done; a chain with stores into new blocks. -/
namespace Go.Proofs.YtiommpdbbpddpaaGreat
open Go.RowKit

/-- the values of the operations that are no reads and are done -/
def dnV (m : Nat) (kind dst : Nat → Nat) (l : Array Bool) (T : Nat → Value) : Nat → Value := fun j => if j < m ∧ kind j ≠ 0 ∧ l.getD j false = true then T (dst j) else undef
/-- what is new is no old block -/
def NewU (u : Value) (w : World) : Prop := ∀ b o p, u = .pointer (some ⟨b, o, p⟩) → w.heap.size ≤ b
structure SMidF (t : RTab) (w0 : World) (T0 : Nat → Value) (c : Nat) (l : Array Bool) (T : Nat → Value) (w : World) : Prop where
  out : ∀ s, t.inv s = t.m → T s = T0 s
  val : ∀ j, j < t.m → t.kind j = 0 → l.getD j false = true → T (t.dst j) = t.V j
  cval : ∀ j, j < t.m → t.kind j = 1 → t.X j = true → l.getD j false = true → T (t.dst j) = t.V j
  free : ∀ j, j < t.m → t.kind j = 2 → l.getD j false = true → t.F j (T (t.dst j)) w
  come : Come t.toRSt c l
  kp : Kp t.L w0 w
  ext : t.E c (dnV t.m t.kind t.dst l T) w
  old : ∀ s, t.inv s < t.m → l.getD (t.inv s) false = false → T s = T0 s
/-- where an operation of the chain leaves off -/
def AfterF (t : RTab) (w0 : World) (l : Array Bool) (i : Nat) (T : Nat → Value) (w : World) (a' : Act) (w' : World) : Prop :=
  ∃ T', a' = frameOf t.N T' ∧ (∀ s, s ≠ t.dst i ∨ t.dst i = t.N → T' s = T s) ∧ Kp t.L w0 w' ∧ (∀ j u, t.F j u w → t.F j u w') ∧ (t.X i = true → T' (t.dst i) = t.V i) ∧ t.E (t.pos i + 1) (updV (dnV t.m t.kind t.dst l T) i (T' (t.dst i))) w'
structure ROpsF (ops : Array Oper) (t : RTab) (w0 : World) (T0 : Nat → Value) : Prop where
  ok : regOk ops t.toRSt = true
  gv : ∀ i, i < t.m → t.isg i = true → t.act i = true ∧ t.V (t.gd i) = .bool (t.gb i) ∨ t.act i = false ∧ t.V (t.gd i) = .bool (!t.gb i) ∧ t.kind i = 0 ∧ t.V i = undef
  read : ∀ i, i < t.m → t.kind i = 0 → t.act i = true → ∀ l T w o c, i ∈ Region.ready .any ops l → Closed ops l → SMidF t w0 T0 c l T w → ops[i]? = some o →
    (execOp (frameOf t.N T).eval o).run Tryz.prog w = .ok (.value (t.V i)) w
  chain : ∀ i, i < t.m → t.kind i = 1 → ∀ l T w o, i ∈ Region.ready .any ops l → Closed ops l → SMidF t w0 T0 (t.pos i) l T w → ops[i]? = some o →
    ∀ Q, o.wp Tryz.prog (frameOf t.N T) w (AfterF t w0 l i T w) Q
  free : ∀ i, i < t.m → t.kind i = 2 → ∀ l T w o c, i ∈ Region.ready .any ops l → Closed ops l → SMidF t w0 T0 c l T w → ops[i]? = some o →
    ∃ u w', (execOp (frameOf t.N T).eval o).run Tryz.prog w = .ok (.value u) w' ∧ t.F i u w' ∧ Kp [] w w' ∧ NewU u w

end Go.Proofs.YtiommpdbbpddpaaGreat

/- Walk over whole.Binomial: the number of sets of k elements among n. -/
namespace Go.Proofs.YtiommpdbbpddpaaGreat
open Go.RowKit
open Go.Lib (nDigits itoa decDigits)

theorem S_one : S 1 = ⟨#[49]⟩ := by unfold S; rw [show itoa 1 = decDigits 1 from rfl, dec_small (by omega)]; rfl
end Go.Proofs.YtiommpdbbpddpaaGreat

/- playNumbers of metrolabtop. -/
namespace Go.Proofs.YtiommpdbbpddpaaGreat
open Go.RowKit
open Go.Lib (nDigits itoa decDigits)

theorem play_add : Hid (∀ W : World, Calls Tryz.prog 14 #[.string ⟨#[49, 47, 49, 52]⟩, .string ⟨#[49, 47, 50, 49]⟩] W fun e w' => e = .returned (.tuple #[.string ⟨#[53, 47, 52, 50]⟩, .int .i64 0]) ∧ Kp [] W w') := fun W => by
  have c := add_c (q := mkRat 1 14) (r := mkRat 1 21) (sm_lit (by decide +kernel)) (sm_lit (by decide +kernel)) (by omega) W
  rwa [show mkRat 1 14 + mkRat 1 21 = mkRat 5 42 by decide +kernel, l_1_14, l_1_21, l_5_42] at c
set_option maxRecDepth 100000 in
theorem play_any (w : World) : Calls Tryz.prog 8 #[] w fun e w' => e = .returned (.bool true) ∧ Kp [] w w' := by
  have q := play_add
  go_enter Tryz.func8, Tryz.ntmps8
  go_wp2_with fail
  with_reducible refine (q.out _).mono ?_
  rintro e w1 ⟨rfl, k⟩
  go_wp2
  go_ret
  exact ⟨rfl, k⟩
end Go.Proofs.YtiommpdbbpddpaaGreat
