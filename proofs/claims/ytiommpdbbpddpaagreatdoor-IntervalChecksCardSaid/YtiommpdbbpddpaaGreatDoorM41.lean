/- Texts Small, Comp2, Ik12, Ik13: each says in its own first comment what it proves. -/
import Derived.Test.YtiommpdbbpddpaaGreatDoorShelf
import Derived.Test.YtiommpdbbpddpaaGreatDoorM19
import Derived.Lib.AtoiAll
import Derived.Lib.AppendIntMem
import Derived.Lib.AtoiErrMem
import Derived.Test.YtiommpdbbpddpaaGreatDoorM36
import Derived.Test.YtiommpdbbpddpaaGreatDoorM50
import Derived.Test.YtiommpdbbpddpaaGreatDoorM51
import Derived.Test.YtiommpdbbpddpaaGreatDoorM35
import Derived.Test.YtiommpdbbpddpaaGreatDoorM17
import Derived.Test.YtiommpdbbpddpaaGreatDoorM38
import Derived.Test.YtiommpdbbpddpaaGreatDoorM39
import Derived.Deep.Cut
import Derived.Deep.CutRange
import Derived.Test.YtiommpdbbpddpaaGreatDoorM40
/- Small and Of: of whole and of the reference, for all texts and ints, where the listed variables of strconv hold what the row says. -/
namespace Go.Proofs.YtiommpdbbpddpaaGreatDoor
open Go.RowKit
open Go.Lib (nDigits itoa decDigits)

/-! what Atoi makes of a canonical text -/
/-- an int -/
def InI (z : Int) : Prop := -9223372036854775808 ≤ z ∧ z ≤ 9223372036854775807
instance (z : Int) : Decidable (InI z) := inferInstanceAs (Decidable (_ ∧ _))
/-- what the row lists, as the walks use it -/
def Lay (w : World) : Prop := (∃ tp p, w.var? Tryz.prog "strconv.ErrRange" = some #[.iface tp p]) ∧ Lib.TabIs Tryz.prog w "internal/strconv.uint64pow10" .u64 Lib.pow10Tab
theorem var_kp {P : Program} {w w' : World} {n : String} {cs : Array Value} (h : w.var? P n = some cs) (k : Kp [] w w') : w'.var? P n = some cs := by
  unfold World.var? at *
  cases hg : P.globalNamed n with
  | none => simp [hg] at h
  | some g =>
    simp only [hg, Option.bind_some] at h ⊢
    have hlt : g < w.heap.size := by
      rcases Nat.lt_or_ge g w.heap.size with h' | h'
      · exact h'
      · rw [Array.getElem?_eq_none h'] at h; simp at h
    rw [k.block g hlt (by simp)]
    exact h
theorem Lay.kp {w w' : World} (h : Lay w) (k : Kp [] w w') : Lay w' := by
  obtain ⟨⟨tp, p, h1⟩, h2⟩ := h
  exact ⟨⟨tp, p, var_kp h1 k⟩, var_kp h2 k⟩

/-! the reference's Small -/
end Go.Proofs.YtiommpdbbpddpaaGreatDoor

/- RatioComputes returns true for every input. -/
namespace Go.Proofs.YtiommpdbbpddpaaGreatDoor
open Go.RowKit
open Go.Lib (nDigits itoa decDigits)

section
variable {w : World} {g : Nat} {z0 z1 z2 z3 z4 : Int}
theorem strs_012 (h : B5 w g (S z0) (S z1) (S z2) (S z3) (S z4)) : Strs w g 0 ([z0, z1, z2].map S) := by
  intro i hi
  rcases i with _ | _ | _ | i
  · exact (h.c 0).trans rfl
  · exact (h.c 1).trans rfl
  · exact (h.c 2).trans rfl
  · exact absurd hi (by simp)
theorem strs_23 (h : B5 w g (S z0) (S z1) (S z2) (S z3) (S z4)) : Strs w g 2 ([z2, z3].map S) := by
  intro i hi
  rcases i with _ | _ | i
  · exact (h.c 2).trans rfl
  · exact (h.c 3).trans rfl
  · exact absurd hi (by simp)
theorem strs_1 {T : Nat} (h : w.heap[g]? = some (.cells #[.string (S z0)] T (0, 0))) : Strs w g 0 ([z0].map S) := by
  intro i hi
  rcases i with _ | i
  · simp [World.cell?, h]
  · exact absurd hi (by simp)
theorem blk_in {x : Obj} (h : w.heap[g]? = some x) : g < w.heap.size := (Array.getElem?_eq_some_iff.1 h).1
end
theorem pair_ok {j k : Nat} {q r : Rat} {w : World} (hq : Sm j q) (hr : Sm k r) (hj : j ≤ 1024) (hk : k ≤ 1024) : Hid (Gw w 55 #[.string (RS q), .string (RS r)] (.int .i64 0)) :=
  gw_of fun W => rpair_0 _ _ 0 W (ref_ok (hq.ok hj)) (ref_ok (hr.ok hk))

section
variable {j k : Nat} {q r : Rat}












theorem rMul_c (hq : Sm j q) (hr : Sm k r) (h : j + k < 1024) (w : World) :
    Calls Tryz.prog 38 #[.string (RS q), .string (RS r)] w fun r0 w' => r0 = .returned (.tuple #[.string (RS (q * r)), .int .i64 0]) ∧ Kp [] w w' := by
  have o1 := ok_pow (hq.nd hr) (by omega)
  have o2 := ok_pow (hq.dn hr) (by omega)
  have o3 := ok_pow (hq.dd hr) (by omega)
  have o4 := ok_pow (hq.nn hr) (by omega)
  have o5 := ok_pow (hq.dn' hr) (by omega)
  exact rMul_0 _ _ _ _ _ _ _ _ w (pair_ok hq hr (by omega) (by omega)) (fun W => crossed_c hq hr (by omega) W)
    (fun W g h => long_S g 2 3 [_, _] W (strs_23 h) h.lt (by simp) (by intro z hz; simp at hz; rcases hz with rfl | rfl <;> assumption))
    (gw_of fun W => rtimes2 hq hr (by omega) W)

theorem rAdd_c (hq : Sm j q) (hr : Sm k r) (h : j + k < 1024) (w : World) :
    Calls Tryz.prog 37 #[.string (RS q), .string (RS r)] w fun r0 w' => r0 = .returned (.tuple #[.string (RS (q + r)), .int .i64 0]) ∧ Kp [] w w' := by
  have o1 := ok_pow (hq.nd hr) (by omega)
  have o2 := ok_pow (hq.dn hr) (by omega)
  have o3 := ok_pow (hq.dd hr) (by omega)
  have o4 := ok_pow (hq.nn hr) (by omega)
  have o5 := ok_pow (hq.dn' hr) (by omega)
  exact rAdd_0 _ _ _ _ _ _ _ _ _ w (pair_ok hq hr (by omega) (by omega)) (fun W => crossed_c hq hr (by omega) W)
    (fun W g h => long_S g 0 5 [_, _, _] W (strs_012 h) h.lt (by simp) (by intro z hz; simp at hz; rcases hz with rfl | rfl | rfl <;> assumption))
    (fun W => plus_all.out _ _ W o1 o2) (fun W g h => long_S g 0 1 [_] W (strs_1 h) (blk_in h) (by simp) (by intro z hz; simp at hz; subst hz; exact ok_pow (addI_lt (hq.nd hr) (hq.dn hr)) (by omega)))
    (gw_of fun W => rplus2 hq hr (by omega) W)

theorem rSub_c (hq : Sm j q) (hr : Sm k r) (h : j + k < 1024) (w : World) :
    Calls Tryz.prog 30 #[.string (RS q), .string (RS r)] w fun r0 w' => r0 = .returned (.tuple #[.string (RS (q - r)), .int .i64 0]) ∧ Kp [] w w' := by
  have o1 := ok_pow (hq.nd hr) (by omega)
  have o2 := ok_pow (hq.dn hr) (by omega)
  have o3 := ok_pow (hq.dd hr) (by omega)
  have o4 := ok_pow (hq.nn hr) (by omega)
  have o5 := ok_pow (hq.dn' hr) (by omega)
  exact rSub_0 _ _ _ _ _ _ _ _ _ w (pair_ok hq hr (by omega) (by omega)) (fun W => crossed_c hq hr (by omega) W)
    (fun W g h => long_S g 0 5 [_, _, _] W (strs_012 h) h.lt (by simp) (by intro z hz; simp at hz; rcases hz with rfl | rfl | rfl <;> assumption))
    (fun W => minus_any plus_all _ _ W o1 o2) (fun W g h => long_S g 0 1 [_] W (strs_1 h) (blk_in h) (by simp) (by intro z hz; simp at hz; subst hz; exact ok_pow (subI_lt (hq.nd hr) (hq.dn hr)) (by omega)))
    (gw_of fun W => rminus2 hq hr (by omega) W)
















end
section
variable {a b : ByteArray} {w : World}




















end












































































































































end Go.Proofs.YtiommpdbbpddpaaGreatDoor

/- Add and Sub of package interval and of the reference of layer 3 give the same for short texts. -/
namespace Go.Proofs.YtiommpdbbpddpaaGreatDoor
open Go.RowKit
open Go.Lib (nDigits itoa decDigits)

theorem kpI_ne {e : Int} (h : e ≠ 0) (f : Int) : kp e f = e := if_neg h
theorem zB_ne {e : Int} (h : e ≠ 0) (u : ByteArray) : zB e u = ⟨#[]⟩ := if_neg h
theorem zB_z (u : ByteArray) : zB 0 u = u := if_pos rfl




theorem iAdd_any (l1 h1 l2 h2 : ByteArray) (a : shB l1 = true) (b : shB h1 = true) (c : shB l2 = true) (d : shB h2 = true) (E : Int) (hE : E = kp (kp (kp (icE l1 h1) (icE l2 h2)) (qAddE l1 l2)) (qAddE h1 h2)) (W : World) :
    Calls Tryz.prog 16 #[.agg #[.string l1, .string h1], .agg #[.string l2, .string h2]] W fun r w' => r = .returned (.tuple #[.agg #[.string (zB E (qAddB l1 l2)), .string (zB E (qAddB h1 h2))], .int .i64 E]) ∧ Kp [] W w' := by
  subst hE
  refine iadd_w l1 h1 l2 h2 _ _ _ W fun V g ba bb hR ha hb => ?_
  exact iadd g ba bb l1 h1 l2 h2 _ _ (kp (icE l1 h1) (icE l2 h2)) _ _ V hR ha hb (Lib.hid fun V b0 hR hs => keep_2 g b0 l1 h1 l2 h2 V hR hs (sh_size9 a) (sh_size9 b) (sh_size9 c) (sh_size9 d))
    (Lib.hid fun V hR => kOf 36 g _ _ _ _ _ V hR (Lib.hid fun V => qAdd_any _ _ V (sh_size9 a) (sh_size9 c)) (enters_of Tryz.func36 (by kernel_rfl) rfl))
    (Lib.hid fun V hR => kOf 36 g _ _ _ _ _ V hR (Lib.hid fun V => qAdd_any _ _ V (sh_size9 b) (sh_size9 d)) (enters_of Tryz.func36 (by kernel_rfl) rfl))





















theorem iSub_any (l1 h1 l2 h2 : ByteArray) (a : shB l1 = true) (b : shB h1 = true) (c : shB l2 = true) (d : shB h2 = true) (E : Int) (hE : E = kp (kp (kp (icE l1 h1) (icE l2 h2)) (qSubE l1 h2)) (qSubE h1 l2)) (W : World) :
    Calls Tryz.prog 17 #[.agg #[.string l1, .string h1], .agg #[.string l2, .string h2]] W fun r w' => r = .returned (.tuple #[.agg #[.string (zB E (qSubB l1 h2)), .string (zB E (qSubB h1 l2))], .int .i64 E]) ∧ Kp [] W w' := by
  subst hE
  refine isub_w l1 h1 l2 h2 _ _ _ W fun V g ba bb hR ha hb => ?_
  exact isub g ba bb l1 h1 l2 h2 _ _ (kp (icE l1 h1) (icE l2 h2)) _ _ V hR ha hb (Lib.hid fun V b0 hR hs => keep_2 g b0 l1 h1 l2 h2 V hR hs (sh_size9 a) (sh_size9 b) (sh_size9 c) (sh_size9 d))
    (Lib.hid fun V hR => kOf 29 g _ _ _ _ _ V hR (Lib.hid fun V => qSub_any _ _ V (sh_size9 a) (sh_size9 d)) (enters_of Tryz.func29 (by kernel_rfl) rfl))
    (Lib.hid fun V hR => kOf 29 g _ _ _ _ _ V hR (Lib.hid fun V => qSub_any _ _ V (sh_size9 b) (sh_size9 c)) (enters_of Tryz.func29 (by kernel_rfl) rfl))





















end Go.Proofs.YtiommpdbbpddpaaGreatDoor

/- Scale, Hull, Contains, Within of package interval and of the reference of layer 3 give the same for short texts. -/
namespace Go.Proofs.YtiommpdbbpddpaaGreatDoor
open Go.RowKit
open Go.Lib (nDigits itoa decDigits)

theorem qSg_v {k : Nat} {x : Rat} (hx : Sm k x) (h : k ≤ 1024) : qSgE (RS x) = 0 ∧ (qSgV (RS x) < 0 ↔ x < 0) := by
  obtain ⟨a, b⟩ := qSign_RS (hx.ok h)
  refine ⟨a, ?_⟩
  rw [b]
  have e : x < 0 ↔ x.num < 0 := by
    have := @Rat.num_nonneg x
    constructor
    · intro h; exact Int.not_le.1 fun k => absurd (this.1 k) (Rat.not_le.2 h)
    · intro h; exact Rat.not_le.1 fun k => by have := this.2 k; omega
  rw [e]
  unfold sgn
  by_cases h1 : x.num < 0
  · simp [h1]
  · rw [if_neg h1]
    by_cases h2 : x.num = 0
    · simp [h2]
    · rw [if_neg h2]; omega
theorem kc_keep (g : Nat) (e f : Int) : KC g 45 #[.pointer (some ⟨g, 0, none⟩), .int .i64 f] e (.tuple #[]) (kp e f) := Lib.hid fun W h => kKeep g e f W h
theorem kc_mul (g : Nat) (e : Int) (a b : ByteArray) (ha : a.size ≤ 9223372036854775807) (hb : b.size ≤ 9223372036854775807) : KC g 28 #[.pointer (some ⟨g, 0, none⟩), .func (.func 46) #[] #[], .string a, .string b] e (.string (qMulB a b)) (kp e (qMulE a b)) :=
  Lib.hid fun V hR => kOf 46 g _ _ _ _ _ V hR (Lib.hid fun V => qMul_any _ _ V ha hb) (enters_of Tryz.func46 (by kernel_rfl) rfl)
theorem kc_order (g : Nat) (e : Int) (a b : ByteArray) (ha : a.size ≤ 9223372036854775807) (hb : b.size ≤ 9223372036854775807) : KC g 113 #[.pointer (some ⟨g, 0, none⟩), .string a, .string b] e (.int .i64 (qCmV a b)) (kp e (qCmE a b)) :=
  Lib.hid fun V hR => kOrder g e _ a b _ V hR (Lib.hid fun V => qCompare_any a b V ha hb)

/-- Scale, whatever the sign: the ends that it takes are told by c -/
theorem iScale_any (lo hi x : ByteArray) (a : shB lo = true) (b : shB hi = true) (c : shB x = true) (E : Int)
    (hE : E = if qSgV x < 0 then kp (kp (kp (icE lo hi) (qSgE x)) (qMulE hi x)) (qMulE lo x) else kp (kp (kp (icE lo hi) (qSgE x)) (qMulE lo x)) (qMulE hi x)) (W : World) :
    Calls Tryz.prog 18 #[.agg #[.string lo, .string hi], .string x] W fun r w' => r = .returned (.tuple #[.agg #[.string (zB E (if qSgV x < 0 then qMulB hi x else qMulB lo x)), .string (zB E (if qSgV x < 0 then qMulB lo x else qMulB hi x))], .int .i64 E]) ∧ Kp [] W w' := by
  subst hE
  refine iScale_w lo hi x _ _ _ W fun V g ba bc hR ha hc hne => ?_
  have hcg := hc.ne hR
  have qk : Hid (∀ (W : World) (b : Nat), RE W g 0 → SpB W b lo hi → Calls Tryz.prog 27 #[.pointer (some ⟨g, 0, none⟩), .slice (some ⟨b, 0, none⟩) 1 1] W fun r w' => r = .returned (.tuple #[]) ∧ RE w' g (icE lo hi) ∧ Kp [g] W w') := Lib.hid fun W b0 hR hs => keep_1 g b0 lo hi W hR hs (sh_size9 a) (sh_size9 b)
  have qs : Hid (∀ W : World, Calls Tryz.prog 44 #[.string x] W fun e w' => e = .returned (.tuple #[.int .i64 (qSgV x), .int .i64 (qSgE x)]) ∧ Kp [] W w') := Lib.hid fun W => qSign_any x W (sh_size9 c)
  by_cases h : qSgV x < 0
  · simp only [if_pos h]
    exact iScale_neg g ba bc lo hi x _ _ _ _ _ _ _ _ V hR ha hc hcg hne h qk qs (kc_keep g _ _) (kc_mul g _ _ _ (sh_size9 b) (sh_size9 c)) (kc_mul g _ _ _ (sh_size9 a) (sh_size9 c))
  · simp only [if_neg h]
    exact iScale_pos g ba bc lo hi x _ _ _ _ _ _ _ _ V hR ha hc hcg hne h qk qs (kc_keep g _ _) (kc_mul g _ _ _ (sh_size9 a) (sh_size9 c)) (kc_mul g _ _ _ (sh_size9 b) (sh_size9 c))
theorem scale_v {q r x : Rat} {j k i : Nat} (hq : Sm j q) (hr : Sm k r) (hx : Sm i x) (h1 : j + i < 1024) (h2 : k + i < 1024) (hle : q ≤ r) (a : shB (RS q) = true) (b : shB (RS r) = true) (c : shB (RS x) = true) :
    Ca 18 #[.agg #[.string (RS q), .string (RS r)], .string (RS x)] (.tuple #[.agg #[.string (RS (if x < 0 then r * x else q * x)), .string (RS (if x < 0 then q * x else r * x))], .int .i64 0]) := Lib.hid fun W => by
  obtain ⟨s1, s2⟩ := qSg_v hx (by omega)
  obtain ⟨m1, m2⟩ := mul_v hq hx (by omega)
  obtain ⟨m3, m4⟩ := mul_v hr hx (by omega)
  have e : icE (RS q) (RS r) = 0 := by
    rcases ic_cases a b with h | ⟨h, _⟩
    · exfalso
      obtain ⟨q', hq', hs⟩ : ∃ q', RS q = RS q' ∧ Sm 30 q' := by
        rcases sh_cases a with h | h
        · exact absurd (sp_RS (hq.ok (by omega))).2.2 h
        · exact h
      obtain ⟨r', hr', hs2⟩ : ∃ r', RS r = RS r' ∧ Sm 30 r' := by
        rcases sh_cases b with h | h
        · exact absurd (sp_RS (hr.ok (by omega))).2.2 h
        · exact h
      have e1 := RS_inj (hq.ok (by omega)) (hs.ok (by omega)) hq'
      have e2 := RS_inj (hr.ok (by omega)) (hs2.ok (by omega)) hr'
      subst e1
      subst e2
      rw [icE_v hs hs2 (by omega), if_neg (Rat.not_lt.2 hle)] at h
      exact h rfl
    · exact h
  have := iScale_any (RS q) (RS r) (RS x) a b c _ rfl W
  rw [e, s1, m1, m2, m3, m4] at this
  by_cases h : x < 0
  · simpa only [kp_zero, if_pos (s2.2 h), if_pos h, zB_z] using this
  · simpa only [kp_zero, if_neg (fun k => h (s2.1 k)), if_neg h, zB_z] using this











































































end Go.Proofs.YtiommpdbbpddpaaGreatDoor
