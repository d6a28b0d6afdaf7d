/- Texts Small, Comp2, Ik12, Ik13: each says in its own first comment what it proves. -/
import Derived.Test.YtabepobcmpmkdaaGreatM16
import Derived.Test.YtabepobcmpmkdaaGreatM23
import Derived.Lib.AtoiAll
import Derived.Lib.AppendIntMem
import Derived.Lib.AtoiErrMem
import Derived.Test.YtabepobcmpmkdaaGreatM49
import Derived.Test.YtabepobcmpmkdaaGreatM46
import Derived.Test.YtabepobcmpmkdaaGreatM44
import Derived.Test.YtabepobcmpmkdaaGreatM42
import Derived.Test.YtabepobcmpmkdaaGreatM36
import Derived.Test.YtabepobcmpmkdaaGreatM45
import Derived.Test.YtabepobcmpmkdaaGreatM21
import Derived.Test.YtabepobcmpmkdaaGreatM73
import Derived.Test.YtabepobcmpmkdaaGreatM74
import Derived.Test.YtabepobcmpmkdaaGreatM75
/- Small and Of: of whole and of the reference, for all texts and ints, where the listed variables of strconv hold what the row says. -/
namespace Go.Proofs.YtabepobcmpmkdaaGreat
open Go.RowKit
open Go.Lib (nDigits itoa decDigits)

/-! what Atoi makes of a canonical text -/
/-- an int -/
def InI (z : Int) : Prop := -9223372036854775808 ≤ z ∧ z ≤ 9223372036854775807
instance (z : Int) : Decidable (InI z) := inferInstanceAs (Decidable (_ ∧ _))
/-- what the row lists, as the walks use it -/
def Lay (w : World) : Prop := (∃ tp p, w.var? Tryz.prog "strconv.ErrRange" = some #[.iface tp p]) ∧ Lib.TabIs Tryz.prog w "internal/strconv.uint64pow10" .u64 Lib.pow10Tab
theorem var_kp {P : Program} {w w' : World} {n : String} {cs : Array Value} (h : w.var? P n = some cs) (k : Kp [] w w') : w'.var? P n = some cs := by
  unfold World.var? at *
  cases hg : P.globalNamed n with
  | none => simp [hg] at h
  | some g =>
    simp only [hg, Option.bind_some] at h ⊢
    have hlt : g < w.heap.size := by
      rcases Nat.lt_or_ge g w.heap.size with h' | h'
      · exact h'
      · rw [Array.getElem?_eq_none h'] at h; simp at h
    rw [k.block g hlt (by simp)]
    exact h
theorem Lay.kp {w w' : World} (h : Lay w) (k : Kp [] w w') : Lay w' := by
  obtain ⟨⟨tp, p, h1⟩, h2⟩ := h
  exact ⟨⟨tp, p, var_kp h1 k⟩, var_kp h2 k⟩














/-! the reference's Small -/
end Go.Proofs.YtabepobcmpmkdaaGreat

/- RatioComputes returns true for every input. -/
namespace Go.Proofs.YtabepobcmpmkdaaGreat
open Go.RowKit
open Go.Lib (nDigits itoa decDigits)

section
variable {w : World} {g : Nat} {z0 z1 z2 z3 z4 : Int}
theorem strs_012 (h : B5 w g (S z0) (S z1) (S z2) (S z3) (S z4)) : Strs w g 0 ([z0, z1, z2].map S) := by
  intro i hi
  rcases i with _ | _ | _ | i
  · exact (h.c 0).trans rfl
  · exact (h.c 1).trans rfl
  · exact (h.c 2).trans rfl
  · exact absurd hi (by simp)
theorem strs_23 (h : B5 w g (S z0) (S z1) (S z2) (S z3) (S z4)) : Strs w g 2 ([z2, z3].map S) := by
  intro i hi
  rcases i with _ | _ | i
  · exact (h.c 2).trans rfl
  · exact (h.c 3).trans rfl
  · exact absurd hi (by simp)
theorem strs_1 {T : Nat} (h : w.heap[g]? = some (.cells #[.string (S z0)] T (0, 0))) : Strs w g 0 ([z0].map S) := by
  intro i hi
  rcases i with _ | i
  · simp [World.cell?, h]
  · exact absurd hi (by simp)
theorem blk_in {x : Obj} (h : w.heap[g]? = some x) : g < w.heap.size := (Array.getElem?_eq_some_iff.1 h).1
end
theorem pair_ok {j k : Nat} {q r : Rat} {w : World} (hq : Sm j q) (hr : Sm k r) (hj : j ≤ 1024) (hk : k ≤ 1024) : Hid (Gw w 104 #[.string (RS q), .string (RS r)] (.int .i64 0)) :=
  gw_of fun W => rpair_0 _ _ 0 W (ref_ok (hq.ok hj)) (ref_ok (hr.ok hk))

section
variable {j k : Nat} {q r : Rat}












theorem rMul_c (hq : Sm j q) (hr : Sm k r) (h : j + k < 1024) (w : World) :
    Calls Tryz.prog 63 #[.string (RS q), .string (RS r)] w fun r0 w' => r0 = .returned (.tuple #[.string (RS (q * r)), .int .i64 0]) ∧ Kp [] w w' := by
  have o1 := ok_pow (hq.nd hr) (by omega)
  have o2 := ok_pow (hq.dn hr) (by omega)
  have o3 := ok_pow (hq.dd hr) (by omega)
  have o4 := ok_pow (hq.nn hr) (by omega)
  have o5 := ok_pow (hq.dn' hr) (by omega)
  exact rMul_0 _ _ _ _ _ _ _ _ w (pair_ok hq hr (by omega) (by omega)) (fun W => crossed_c hq hr (by omega) W)
    (fun W g h => long_S g 2 3 [_, _] W (strs_23 h) h.lt (by simp) (by intro z hz; simp at hz; rcases hz with rfl | rfl <;> assumption))
    (gw_of fun W => rtimes2 hq hr (by omega) W)

theorem rAdd_c (hq : Sm j q) (hr : Sm k r) (h : j + k < 1024) (w : World) :
    Calls Tryz.prog 54 #[.string (RS q), .string (RS r)] w fun r0 w' => r0 = .returned (.tuple #[.string (RS (q + r)), .int .i64 0]) ∧ Kp [] w w' := by
  have o1 := ok_pow (hq.nd hr) (by omega)
  have o2 := ok_pow (hq.dn hr) (by omega)
  have o3 := ok_pow (hq.dd hr) (by omega)
  have o4 := ok_pow (hq.nn hr) (by omega)
  have o5 := ok_pow (hq.dn' hr) (by omega)
  exact rAdd_0 _ _ _ _ _ _ _ _ _ w (pair_ok hq hr (by omega) (by omega)) (fun W => crossed_c hq hr (by omega) W)
    (fun W g h => long_S g 0 5 [_, _, _] W (strs_012 h) h.lt (by simp) (by intro z hz; simp at hz; rcases hz with rfl | rfl | rfl <;> assumption))
    (fun W => plus_all.out _ _ W o1 o2) (fun W g h => long_S g 0 1 [_] W (strs_1 h) (blk_in h) (by simp) (by intro z hz; simp at hz; subst hz; exact ok_pow (addI_lt (hq.nd hr) (hq.dn hr)) (by omega)))
    (gw_of fun W => rplus2 hq hr (by omega) W)

theorem rSub_c (hq : Sm j q) (hr : Sm k r) (h : j + k < 1024) (w : World) :
    Calls Tryz.prog 58 #[.string (RS q), .string (RS r)] w fun r0 w' => r0 = .returned (.tuple #[.string (RS (q - r)), .int .i64 0]) ∧ Kp [] w w' := by
  have o1 := ok_pow (hq.nd hr) (by omega)
  have o2 := ok_pow (hq.dn hr) (by omega)
  have o3 := ok_pow (hq.dd hr) (by omega)
  have o4 := ok_pow (hq.nn hr) (by omega)
  have o5 := ok_pow (hq.dn' hr) (by omega)
  exact rSub_0 _ _ _ _ _ _ _ _ _ w (pair_ok hq hr (by omega) (by omega)) (fun W => crossed_c hq hr (by omega) W)
    (fun W g h => long_S g 0 5 [_, _, _] W (strs_012 h) h.lt (by simp) (by intro z hz; simp at hz; rcases hz with rfl | rfl | rfl <;> assumption))
    (fun W => minus_any plus_all _ _ W o1 o2) (fun W g h => long_S g 0 1 [_] W (strs_1 h) (blk_in h) (by simp) (by intro z hz; simp at hz; subst hz; exact ok_pow (subI_lt (hq.nd hr) (hq.dn hr)) (by omega)))
    (gw_of fun W => rminus2 hq hr (by omega) W)
















end
section
variable {a b : ByteArray} {w : World}




















end












































































































































end Go.Proofs.YtabepobcmpmkdaaGreat

/- Add and Sub of package interval and of the reference of layer 3 give the same for short texts. -/
namespace Go.Proofs.YtabepobcmpmkdaaGreat
open Go.RowKit
open Go.Lib (nDigits itoa decDigits)

theorem kpI_ne {e : Int} (h : e ≠ 0) (f : Int) : kp e f = e := if_neg h
theorem zB_ne {e : Int} (h : e ≠ 0) (u : ByteArray) : zB e u = ⟨#[]⟩ := if_neg h
theorem zB_z (u : ByteArray) : zB 0 u = u := if_pos rfl
theorem r3both_c {l1 h1 l2 h2 : ByteArray} (a : shB l1 = true) (b : shB h1 = true) (c : shB l2 = true) (d : shB h2 = true) :
    Ca 53 #[.agg #[.string l1, .string h1], .agg #[.string l2, .string h2]] (.int .i64 (kp (icE l1 h1) (icE l2 h2))) :=
  Lib.hid fun W => r3both l1 h1 l2 h2 _ _ W (Lib.hid fun W => r3check l1 h1 W a b) (Lib.hid fun W => r3check l2 h2 W c d)

theorem iAdd_any (l1 h1 l2 h2 : ByteArray) (a : shB l1 = true) (b : shB h1 = true) (c : shB l2 = true) (d : shB h2 = true) (E : Int) (hE : E = kp (kp (kp (icE l1 h1) (icE l2 h2)) (qAddE l1 l2)) (qAddE h1 h2)) (W : World) :
    Calls Tryz.prog 13 #[.agg #[.string l1, .string h1], .agg #[.string l2, .string h2]] W fun r w' => r = .returned (.tuple #[.agg #[.string (zB E (qAddB l1 l2)), .string (zB E (qAddB h1 h2))], .int .i64 E]) ∧ Kp [] W w' := by
  subst hE
  refine iadd_w l1 h1 l2 h2 _ _ _ W fun V g ba bb hR ha hb => ?_
  exact iadd g ba bb l1 h1 l2 h2 _ _ (kp (icE l1 h1) (icE l2 h2)) _ _ V hR ha hb (Lib.hid fun V b0 hR hs => keep_2 g b0 l1 h1 l2 h2 V hR hs (sh_size9 a) (sh_size9 b) (sh_size9 c) (sh_size9 d))
    (Lib.hid fun V hR => kOf 44 g _ _ _ _ _ V hR (Lib.hid fun V => qAdd_any _ _ V (sh_size9 a) (sh_size9 c)) (enters_of Tryz.func44 (by kernel_rfl) rfl))
    (Lib.hid fun V hR => kOf 44 g _ _ _ _ _ V hR (Lib.hid fun V => qAdd_any _ _ V (sh_size9 b) (sh_size9 d)) (enters_of Tryz.func44 (by kernel_rfl) rfl))
theorem add_both (l1 h1 l2 h2 : ByteArray) (a : shB l1 = true) (b : shB h1 = true) (c : shB l2 = true) (d : shB h2 = true) : ∃ (u v : ByteArray) (E : Int),
    Ca 13 #[.agg #[.string l1, .string h1], .agg #[.string l2, .string h2]] (.tuple #[.agg #[.string u, .string v], .int .i64 E]) ∧ Ca 14 #[.agg #[.string l1, .string h1], .agg #[.string l2, .string h2]] (.tuple #[.agg #[.string u, .string v], .int .i64 E]) := by
  have qb := r3both_c a b c d
  have bad : kp (icE l1 h1) (icE l2 h2) ≠ 0 → ∃ (u v : ByteArray) (E : Int),
      Ca 13 #[.agg #[.string l1, .string h1], .agg #[.string l2, .string h2]] (.tuple #[.agg #[.string u, .string v], .int .i64 E]) ∧ Ca 14 #[.agg #[.string l1, .string h1], .agg #[.string l2, .string h2]] (.tuple #[.agg #[.string u, .string v], .int .i64 E]) := fun he => by
    refine ⟨⟨#[]⟩, ⟨#[]⟩, kp (icE l1 h1) (icE l2 h2), Lib.hid fun W => ?_, Lib.hid fun W => r3Add_e l1 h1 l2 h2 _ W (by simpa using he) qb⟩
    have := iAdd_any l1 h1 l2 h2 a b c d _ rfl W
    rw [kpI_ne he, kpI_ne he, zB_ne he, zB_ne he] at this
    exact this
  rcases ic_cases a b with e | ⟨e, q1, r1, rfl, rfl, hq1, hr1, _⟩
  · exact bad (by rw [kpI_ne e]; exact e)
  · rcases ic_cases c d with f | ⟨f, q2, r2, rfl, rfl, hq2, hr2, _⟩
    · exact bad (by rw [e, kp_zero]; exact f)
    · obtain ⟨v1, v2⟩ := add_v hq1 hq2 (by omega)
      obtain ⟨v3, v4⟩ := add_v hr1 hr2 (by omega)
      rw [e, f, kp_zero] at qb
      refine ⟨RS (q1 + q2), RS (r1 + r2), 0, Lib.hid fun W => ?_, Lib.hid fun W => r3Add_0 _ _ _ _ _ _ W qb (Lib.hid fun V => rAdd_c hq1 hq2 (by omega) V) (Lib.hid fun V => rAdd_c hr1 hr2 (by omega) V)⟩
      have := iAdd_any _ _ _ _ a b c d _ rfl W
      rw [e, f, v1, v2, v3, v4] at this
      simpa only [kp_zero, zB_z] using this

theorem iSub_any (l1 h1 l2 h2 : ByteArray) (a : shB l1 = true) (b : shB h1 = true) (c : shB l2 = true) (d : shB h2 = true) (E : Int) (hE : E = kp (kp (kp (icE l1 h1) (icE l2 h2)) (qSubE l1 h2)) (qSubE h1 l2)) (W : World) :
    Calls Tryz.prog 15 #[.agg #[.string l1, .string h1], .agg #[.string l2, .string h2]] W fun r w' => r = .returned (.tuple #[.agg #[.string (zB E (qSubB l1 h2)), .string (zB E (qSubB h1 l2))], .int .i64 E]) ∧ Kp [] W w' := by
  subst hE
  refine isub_w l1 h1 l2 h2 _ _ _ W fun V g ba bb hR ha hb => ?_
  exact isub g ba bb l1 h1 l2 h2 _ _ (kp (icE l1 h1) (icE l2 h2)) _ _ V hR ha hb (Lib.hid fun V b0 hR hs => keep_2 g b0 l1 h1 l2 h2 V hR hs (sh_size9 a) (sh_size9 b) (sh_size9 c) (sh_size9 d))
    (Lib.hid fun V hR => kOf 57 g _ _ _ _ _ V hR (Lib.hid fun V => qSub_any _ _ V (sh_size9 a) (sh_size9 d)) (enters_of Tryz.func57 (by kernel_rfl) rfl))
    (Lib.hid fun V hR => kOf 57 g _ _ _ _ _ V hR (Lib.hid fun V => qSub_any _ _ V (sh_size9 b) (sh_size9 c)) (enters_of Tryz.func57 (by kernel_rfl) rfl))
theorem sub_both (l1 h1 l2 h2 : ByteArray) (a : shB l1 = true) (b : shB h1 = true) (c : shB l2 = true) (d : shB h2 = true) : ∃ (u v : ByteArray) (E : Int),
    Ca 15 #[.agg #[.string l1, .string h1], .agg #[.string l2, .string h2]] (.tuple #[.agg #[.string u, .string v], .int .i64 E]) ∧ Ca 16 #[.agg #[.string l1, .string h1], .agg #[.string l2, .string h2]] (.tuple #[.agg #[.string u, .string v], .int .i64 E]) := by
  have qb := r3both_c a b c d
  have bad : kp (icE l1 h1) (icE l2 h2) ≠ 0 → ∃ (u v : ByteArray) (E : Int),
      Ca 15 #[.agg #[.string l1, .string h1], .agg #[.string l2, .string h2]] (.tuple #[.agg #[.string u, .string v], .int .i64 E]) ∧ Ca 16 #[.agg #[.string l1, .string h1], .agg #[.string l2, .string h2]] (.tuple #[.agg #[.string u, .string v], .int .i64 E]) := fun he => by
    refine ⟨⟨#[]⟩, ⟨#[]⟩, kp (icE l1 h1) (icE l2 h2), Lib.hid fun W => ?_, Lib.hid fun W => r3Sub_e l1 h1 l2 h2 _ W (by simpa using he) qb⟩
    have := iSub_any l1 h1 l2 h2 a b c d _ rfl W
    rw [kpI_ne he, kpI_ne he, zB_ne he, zB_ne he] at this
    exact this
  rcases ic_cases a b with e | ⟨e, q1, r1, rfl, rfl, hq1, hr1, _⟩
  · exact bad (by rw [kpI_ne e]; exact e)
  · rcases ic_cases c d with f | ⟨f, q2, r2, rfl, rfl, hq2, hr2, _⟩
    · exact bad (by rw [e, kp_zero]; exact f)
    · obtain ⟨v1, v2⟩ := sub_v hq1 hr2 (by omega)
      obtain ⟨v3, v4⟩ := sub_v hr1 hq2 (by omega)
      rw [e, f, kp_zero] at qb
      refine ⟨RS (q1 - r2), RS (r1 - q2), 0, Lib.hid fun W => ?_, Lib.hid fun W => r3Sub_0 _ _ _ _ _ _ W qb (Lib.hid fun V => rSub_c hq1 hr2 (by omega) V) (Lib.hid fun V => rSub_c hr1 hq2 (by omega) V)⟩
      have := iSub_any _ _ _ _ a b c d _ rfl W
      rw [e, f, v1, v2, v3, v4] at this
      simpa only [kp_zero, zB_z] using this

end Go.Proofs.YtabepobcmpmkdaaGreat

/- Scale, Hull, Contains, Within of package interval and of the reference of layer 3 give the same for short texts. -/
namespace Go.Proofs.YtabepobcmpmkdaaGreat
open Go.RowKit
open Go.Lib (nDigits itoa decDigits)

theorem r3check_c {lo hi : ByteArray} (a : shB lo = true) (b : shB hi = true) : Ca 62 #[.agg #[.string lo, .string hi]] (.int .i64 (icE lo hi)) := Lib.hid fun W => r3check lo hi W a b
theorem r2check_c {x : ByteArray} (a : shB x = true) : Ca 42 #[.string x] (.int .i64 (spE x)) := Lib.hid fun W => rCheck2_any x W (sh_size9 a)
theorem ord2_c {j k : Nat} {q r : Rat} (hq : Sm j q) (hr : Sm k r) (h : j + k ≤ 1024) : Ca 64 #[.string (RS q), .string (RS r)] (.int .i64 (cmR q r)) := Lib.hid fun W => rorder2 hq hr h W
theorem cmR_neg {q r : Rat} : cmR q r < 0 ↔ q < r := by
  unfold cmR
  by_cases h1 : q < r
  · simp [h1]
  · by_cases h2 : q = r <;> simp [h1, h2]
theorem cmR_le0 {q r : Rat} : cmR q r ≤ 0 ↔ q ≤ r := by
  have := @cmR_pos q r
  constructor
  · intro h; exact Rat.not_lt.1 fun k => by have := this.2 k; omega
  · intro h; exact Int.not_lt.1 fun k => absurd (this.1 k) (Rat.not_lt.2 h)
theorem cmR_ge0 {q r : Rat} : 0 ≤ cmR q r ↔ r ≤ q := by
  have := @cmR_neg q r
  constructor
  · intro h; exact Rat.not_lt.1 fun k => by have := this.2 k; omega
  · intro h; exact Int.not_lt.1 fun k => absurd (this.1 k) (Rat.not_lt.2 h)
/-- the lesser one, the greater one -/
theorem lsB_v {j k : Nat} {q r : Rat} (hq : Sm j q) (hr : Sm k r) (h : j + k ≤ 1024) : lsB (RS q) (RS r) = RS (mnR q r) ∧ grB (RS q) (RS r) = RS (mxR q r) := by
  obtain ⟨e, _⟩ := cmp_v hq hr h
  unfold lsB grB mnR mxR
  rw [e]
  refine ⟨?_, ?_⟩
  · by_cases h1 : q < r
    · rw [if_pos (cmR_neg.2 h1), if_pos (Rat.le_of_lt h1)]
    · rw [if_neg (fun k => h1 (cmR_neg.1 k))]
      by_cases h2 : q ≤ r
      · rw [if_pos h2]; have : q = r := by grind
        rw [this]
      · rw [if_neg h2]
  · by_cases h1 : r < q
    · rw [if_pos (cmR_pos.2 h1), if_pos (Rat.le_of_lt h1)]
    · rw [if_neg (fun k => h1 (cmR_pos.1 k))]
      by_cases h2 : r ≤ q
      · rw [if_pos h2]; have : q = r := by grind
        rw [this]
      · rw [if_neg h2]
theorem less_c {j k : Nat} {q r : Rat} (hq : Sm j q) (hr : Sm k r) (h : j + k ≤ 1024) : Ca 71 #[.string (RS q), .string (RS r)] (.string (RS (mnR q r))) := Lib.hid fun W => by
  have := r3Less _ _ _ W (ord2_c hq hr h)
  have e : (if cmR q r ≤ 0 then RS q else RS r) = RS (mnR q r) := by
    unfold mnR
    by_cases h1 : q ≤ r
    · rw [if_pos h1, if_pos (cmR_le0.2 h1)]
    · rw [if_neg h1, if_neg (fun k => h1 (cmR_le0.1 k))]
  rwa [e] at this
theorem more_c {j k : Nat} {q r : Rat} (hq : Sm j q) (hr : Sm k r) (h : j + k ≤ 1024) : Ca 46 #[.string (RS q), .string (RS r)] (.string (RS (mxR q r))) := Lib.hid fun W => by
  have := r3More _ _ _ W (ord2_c hq hr h)
  have e : (if 0 ≤ cmR q r then RS q else RS r) = RS (mxR q r) := by
    unfold mxR
    by_cases h1 : r ≤ q
    · rw [if_pos h1, if_pos (cmR_ge0.2 h1)]
    · rw [if_neg h1, if_neg (fun k => h1 (cmR_ge0.1 k))]
  rwa [e] at this
theorem in_c {j k i : Nat} {q r x : Rat} (hq : Sm j q) (hr : Sm k r) (hx : Sm i x) (h : j + i ≤ 1024) (h2 : i + k ≤ 1024) : Ca 76 #[.agg #[.string (RS q), .string (RS r)], .string (RS x)] (.bool (decide (q ≤ x) && decide (x ≤ r))) := Lib.hid fun W => by
  have := r3In _ _ _ _ _ W (ord2_c hq hx h) (ord2_c hx hr h2)
  simp only [cmR_le0] at this
  exact this
theorem qSgE_bad {x : ByteArray} (h : spE x ≠ 0) : qSgE x = spE x := kpI_ne h _
theorem qSg_v {k : Nat} {x : Rat} (hx : Sm k x) (h : k ≤ 1024) : qSgE (RS x) = 0 ∧ (qSgV (RS x) < 0 ↔ x < 0) := by
  obtain ⟨a, b⟩ := qSign_RS (hx.ok h)
  refine ⟨a, ?_⟩
  rw [b]
  have e : x < 0 ↔ x.num < 0 := by
    have := @Rat.num_nonneg x
    constructor
    · intro h; exact Int.not_le.1 fun k => absurd (this.1 k) (Rat.not_le.2 h)
    · intro h; exact Rat.not_le.1 fun k => by have := this.2 k; omega
  rw [e]
  unfold sgn
  by_cases h1 : x.num < 0
  · simp [h1]
  · rw [if_neg h1]
    by_cases h2 : x.num = 0
    · simp [h2]
    · rw [if_neg h2]; omega
theorem kc_keep (g : Nat) (e f : Int) : KC g 61 #[.pointer (some ⟨g, 0, none⟩), .int .i64 f] e (.tuple #[]) (kp e f) := Lib.hid fun W h => kKeep g e f W h
theorem kc_mul (g : Nat) (e : Int) (a b : ByteArray) (ha : a.size ≤ 9223372036854775807) (hb : b.size ≤ 9223372036854775807) : KC g 52 #[.pointer (some ⟨g, 0, none⟩), .func (.func 45) #[] #[], .string a, .string b] e (.string (qMulB a b)) (kp e (qMulE a b)) :=
  Lib.hid fun V hR => kOf 45 g _ _ _ _ _ V hR (Lib.hid fun V => qMul_any _ _ V ha hb) (enters_of Tryz.func45 (by kernel_rfl) rfl)
theorem kc_order (g : Nat) (e : Int) (a b : ByteArray) (ha : a.size ≤ 9223372036854775807) (hb : b.size ≤ 9223372036854775807) : KC g 115 #[.pointer (some ⟨g, 0, none⟩), .string a, .string b] e (.int .i64 (qCmV a b)) (kp e (qCmE a b)) :=
  Lib.hid fun V hR => kOrder g e _ a b _ V hR (Lib.hid fun V => qCompare_any a b V ha hb)

/-- Scale, whatever the sign: the ends that it takes are told by c -/
theorem iScale_any (lo hi x : ByteArray) (a : shB lo = true) (b : shB hi = true) (c : shB x = true) (E : Int)
    (hE : E = if qSgV x < 0 then kp (kp (kp (icE lo hi) (qSgE x)) (qMulE hi x)) (qMulE lo x) else kp (kp (kp (icE lo hi) (qSgE x)) (qMulE lo x)) (qMulE hi x)) (W : World) :
    Calls Tryz.prog 17 #[.agg #[.string lo, .string hi], .string x] W fun r w' => r = .returned (.tuple #[.agg #[.string (zB E (if qSgV x < 0 then qMulB hi x else qMulB lo x)), .string (zB E (if qSgV x < 0 then qMulB lo x else qMulB hi x))], .int .i64 E]) ∧ Kp [] W w' := by
  subst hE
  refine iScale_w lo hi x _ _ _ W fun V g ba bc hR ha hc hne => ?_
  have hcg := hc.ne hR
  have qk : Hid (∀ (W : World) (b : Nat), RE W g 0 → SpB W b lo hi → Calls Tryz.prog 51 #[.pointer (some ⟨g, 0, none⟩), .slice (some ⟨b, 0, none⟩) 1 1] W fun r w' => r = .returned (.tuple #[]) ∧ RE w' g (icE lo hi) ∧ Kp [g] W w') := Lib.hid fun W b0 hR hs => keep_1 g b0 lo hi W hR hs (sh_size9 a) (sh_size9 b)
  have qs : Hid (∀ W : World, Calls Tryz.prog 60 #[.string x] W fun e w' => e = .returned (.tuple #[.int .i64 (qSgV x), .int .i64 (qSgE x)]) ∧ Kp [] W w') := Lib.hid fun W => qSign_any x W (sh_size9 c)
  by_cases h : qSgV x < 0
  · simp only [if_pos h]
    exact iScale_neg g ba bc lo hi x _ _ _ _ _ _ _ _ V hR ha hc hcg hne h qk qs (kc_keep g _ _) (kc_mul g _ _ _ (sh_size9 b) (sh_size9 c)) (kc_mul g _ _ _ (sh_size9 a) (sh_size9 c))
  · simp only [if_neg h]
    exact iScale_pos g ba bc lo hi x _ _ _ _ _ _ _ _ V hR ha hc hcg hne h qk qs (kc_keep g _ _) (kc_mul g _ _ _ (sh_size9 a) (sh_size9 c)) (kc_mul g _ _ _ (sh_size9 b) (sh_size9 c))
theorem scale_v {q r x : Rat} {j k i : Nat} (hq : Sm j q) (hr : Sm k r) (hx : Sm i x) (h1 : j + i < 1024) (h2 : k + i < 1024) (hle : q ≤ r) (a : shB (RS q) = true) (b : shB (RS r) = true) (c : shB (RS x) = true) :
    Ca 17 #[.agg #[.string (RS q), .string (RS r)], .string (RS x)] (.tuple #[.agg #[.string (RS (if x < 0 then r * x else q * x)), .string (RS (if x < 0 then q * x else r * x))], .int .i64 0]) := Lib.hid fun W => by
  obtain ⟨s1, s2⟩ := qSg_v hx (by omega)
  obtain ⟨m1, m2⟩ := mul_v hq hx (by omega)
  obtain ⟨m3, m4⟩ := mul_v hr hx (by omega)
  have e : icE (RS q) (RS r) = 0 := by
    rcases ic_cases a b with h | ⟨h, _⟩
    · exfalso
      obtain ⟨q', hq', hs⟩ : ∃ q', RS q = RS q' ∧ Sm 30 q' := by
        rcases sh_cases a with h | h
        · exact absurd (sp_RS (hq.ok (by omega))).2.2 h
        · exact h
      obtain ⟨r', hr', hs2⟩ : ∃ r', RS r = RS r' ∧ Sm 30 r' := by
        rcases sh_cases b with h | h
        · exact absurd (sp_RS (hr.ok (by omega))).2.2 h
        · exact h
      have e1 := RS_inj (hq.ok (by omega)) (hs.ok (by omega)) hq'
      have e2 := RS_inj (hr.ok (by omega)) (hs2.ok (by omega)) hr'
      subst e1
      subst e2
      rw [icE_v hs hs2 (by omega), if_neg (Rat.not_lt.2 hle)] at h
      exact h rfl
    · exact h
  have := iScale_any (RS q) (RS r) (RS x) a b c _ rfl W
  rw [e, s1, m1, m2, m3, m4] at this
  by_cases h : x < 0
  · simpa only [kp_zero, if_pos (s2.2 h), if_pos h, zB_z] using this
  · simpa only [kp_zero, if_neg (fun k => h (s2.1 k)), if_neg h, zB_z] using this
theorem scale_both (lo hi x : ByteArray) (a : shB lo = true) (b : shB hi = true) (c : shB x = true) : ∃ (u v : ByteArray) (E : Int),
    Ca 17 #[.agg #[.string lo, .string hi], .string x] (.tuple #[.agg #[.string u, .string v], .int .i64 E]) ∧ Ca 18 #[.agg #[.string lo, .string hi], .string x] (.tuple #[.agg #[.string u, .string v], .int .i64 E]) := by
  have bad : ∀ E : Int, E ≠ 0 → (∀ f g : Int, kp (kp (kp (icE lo hi) (qSgE x)) f) g = E) → Ca 18 #[.agg #[.string lo, .string hi], .string x] (.tuple #[.agg #[.string ⟨#[]⟩, .string ⟨#[]⟩], .int .i64 E]) → ∃ (u v : ByteArray) (E : Int),
      Ca 17 #[.agg #[.string lo, .string hi], .string x] (.tuple #[.agg #[.string u, .string v], .int .i64 E]) ∧ Ca 18 #[.agg #[.string lo, .string hi], .string x] (.tuple #[.agg #[.string u, .string v], .int .i64 E]) := fun E h0 h q =>
    ⟨⟨#[]⟩, ⟨#[]⟩, E, Lib.hid fun W => by
      have := iScale_any lo hi x a b c E (by rw [h, h]; simp) W
      rw [zB_ne h0, zB_ne h0] at this
      exact this, q⟩
  rcases ic_cases a b with e | ⟨e, q, r, rfl, rfl, hq, hr, hle⟩
  · exact bad _ e (fun f g => by rw [kpI_ne e, kpI_ne e, kpI_ne e]) (Lib.hid fun W => r3Scale_1 lo hi x _ (by simpa using e) W (r3check_c a b))
  · have qc := r3check_c a b
    rw [e] at qc
    rcases sh_cases c with f | ⟨x, rfl, hx⟩
    · exact bad (spE x) f (fun _ _ => by rw [e, kp_zero, qSgE_bad f, kpI_ne f, kpI_ne f]) (Lib.hid fun W => r3Scale_2 _ _ x _ (by simpa using f) W qc (r2check_c c))
    · have qd := r2check_c c
      rw [(sp_RS (hx.ok (by omega))).2.2] at qd
      refine ⟨_, _, _, scale_v hq hr hx (by omega) (by omega) hle a b c, Lib.hid fun W => ?_⟩
      have z0 : Sm 1 (0 : Rat) := by unfold Sm; decide
      have o : Ca 64 #[.string (RS x), .string ⟨#[48]⟩] (.int .i64 (cmR x 0)) := by
        have := ord2_c hx z0 (by omega)
        rwa [l_0] at this
      by_cases h : x < 0
      · rw [if_pos h, if_pos h]
        exact r3Scale_neg _ _ _ _ _ _ W qc qd (Lib.hid fun V => rMul_c hq hx (by omega) V) (Lib.hid fun V => rMul_c hr hx (by omega) V) o (cmR_neg.2 h)
      · rw [if_neg h, if_neg h]
        exact r3Scale_pos _ _ _ _ _ _ W qc qd (Lib.hid fun V => rMul_c hq hx (by omega) V) (Lib.hid fun V => rMul_c hr hx (by omega) V) o (fun k => h (cmR_neg.1 k))

theorem iHull_any (l1 h1 l2 h2 : ByteArray) (a : shB l1 = true) (b : shB h1 = true) (c : shB l2 = true) (d : shB h2 = true) (E : Int) (hE : E = kp (kp (kp (icE l1 h1) (icE l2 h2)) (qCmE l1 l2)) (qCmE h1 h2)) (W : World) :
    Calls Tryz.prog 21 #[.agg #[.string l1, .string h1], .agg #[.string l2, .string h2]] W fun r w' => r = .returned (.tuple #[.agg #[.string (zB E (lsB l1 l2)), .string (zB E (grB h1 h2))], .int .i64 E]) ∧ Kp [] W w' := by
  subst hE
  refine ihull_w l1 h1 l2 h2 _ _ _ W fun V g ba bb hR ha hb => ?_
  exact ihull g ba bb l1 h1 l2 h2 _ _ (kp (icE l1 h1) (icE l2 h2)) _ _ V hR ha hb (Lib.hid fun V b0 hR hs => keep_2 g b0 l1 h1 l2 h2 V hR hs (sh_size9 a) (sh_size9 b) (sh_size9 c) (sh_size9 d))
    (Lib.hid fun V hR => k_less g _ _ _ V hR (sh_size9 a) (sh_size9 c)) (Lib.hid fun V hR => k_greater g _ _ _ V hR (sh_size9 b) (sh_size9 d))
theorem hull_both (l1 h1 l2 h2 : ByteArray) (a : shB l1 = true) (b : shB h1 = true) (c : shB l2 = true) (d : shB h2 = true) : ∃ (u v : ByteArray) (E : Int),
    Ca 21 #[.agg #[.string l1, .string h1], .agg #[.string l2, .string h2]] (.tuple #[.agg #[.string u, .string v], .int .i64 E]) ∧ Ca 22 #[.agg #[.string l1, .string h1], .agg #[.string l2, .string h2]] (.tuple #[.agg #[.string u, .string v], .int .i64 E]) := by
  have qb := r3both_c a b c d
  have bad : kp (icE l1 h1) (icE l2 h2) ≠ 0 → ∃ (u v : ByteArray) (E : Int),
      Ca 21 #[.agg #[.string l1, .string h1], .agg #[.string l2, .string h2]] (.tuple #[.agg #[.string u, .string v], .int .i64 E]) ∧ Ca 22 #[.agg #[.string l1, .string h1], .agg #[.string l2, .string h2]] (.tuple #[.agg #[.string u, .string v], .int .i64 E]) := fun he => by
    refine ⟨⟨#[]⟩, ⟨#[]⟩, kp (icE l1 h1) (icE l2 h2), Lib.hid fun W => ?_, Lib.hid fun W => r3Hull_e l1 h1 l2 h2 _ W (by simpa using he) qb⟩
    have := iHull_any l1 h1 l2 h2 a b c d _ rfl W
    rw [kpI_ne he, kpI_ne he, zB_ne he, zB_ne he] at this
    exact this
  rcases ic_cases a b with e | ⟨e, q1, r1, rfl, rfl, hq1, hr1, _⟩
  · exact bad (by rw [kpI_ne e]; exact e)
  · rcases ic_cases c d with f | ⟨f, q2, r2, rfl, rfl, hq2, hr2, _⟩
    · exact bad (by rw [e, kp_zero]; exact f)
    · have v2 := (cmp_v hq1 hq2 (by omega)).2
      have v4 := (cmp_v hr1 hr2 (by omega)).2
      have v1 := (lsB_v hq1 hq2 (by omega)).1
      have v3 := (lsB_v hr1 hr2 (by omega)).2
      rw [e, f, kp_zero] at qb
      refine ⟨_, _, 0, Lib.hid fun W => ?_, Lib.hid fun W => r3Hull_0 _ _ _ _ _ _ W qb (less_c hq1 hq2 (by omega)) (more_c hr1 hr2 (by omega))⟩
      have := iHull_any _ _ _ _ a b c d _ rfl W
      rw [e, f, v1, v2, v3, v4] at this
      simpa only [kp_zero, zB_z] using this

/-- inside of a span, in numbers -/
theorem inside_c (g : Nat) (e : Int) {q r x y : Rat} {j k : Nat} (hq : Sm j q) (hr : Sm j r) (hx : Sm k x) (hy : Sm k y) (h : j + k ≤ 1024) :
    KC g 75 #[.pointer (some ⟨g, 0, none⟩), .agg #[.string (RS x), .string (RS y)], .agg #[.string (RS q), .string (RS r)]] e (.bool (decide (q ≤ x) && decide (y ≤ r))) e := Lib.hid fun V hR => by
  have o1 := kc_order g e (RS q) (RS x) (hq.ok (by omega)).size9 (hx.ok (by omega)).size9
  have o2 := kc_order g e (RS y) (RS r) (hy.ok (by omega)).size9 (hr.ok (by omega)).size9
  obtain ⟨v1, v2⟩ := cmp_v hq hx h
  obtain ⟨v3, v4⟩ := cmp_v hy hr (by omega)
  have ke : kp e 0 = e := by unfold kp; split <;> simp_all
  rw [v1, v2, ke] at o1
  rw [v3, v4, ke] at o2
  exact iinside_k g _ _ _ _ _ _ _ _ _ _ V hR (by simp only [cmR_le0]) o1 o2
theorem inside_any (g : Nat) (e : Int) (lo hi x y : ByteArray) (h1 : lo.size ≤ 9223372036854775807) (h2 : hi.size ≤ 9223372036854775807) (h3 : x.size ≤ 9223372036854775807) (h4 : y.size ≤ 9223372036854775807) :
    KC g 75 #[.pointer (some ⟨g, 0, none⟩), .agg #[.string x, .string y], .agg #[.string lo, .string hi]] e (.bool (decide (qCmV lo x ≤ 0) && decide (qCmV y hi ≤ 0))) (kp (kp e (qCmE lo x)) (qCmE y hi)) := Lib.hid fun V hR =>
  iinside_k g _ _ _ _ _ _ _ _ _ _ V hR rfl (kc_order g e lo x h1 h3) (kc_order g _ y hi h4 h2)
theorem iContains_any (lo hi x : ByteArray) (a : shB lo = true) (b : shB hi = true) (c : shB x = true) (E : Int) (hE : E = kp (kp (kp (icE lo hi) (spE x)) (qCmE lo x)) (qCmE x hi)) (W : World) :
    Calls Tryz.prog 23 #[.agg #[.string lo, .string hi], .string x] W fun e w' => e = .returned (.tuple #[.bool (bE E (decide (qCmV lo x ≤ 0) && decide (qCmV x hi ≤ 0))), .int .i64 E]) ∧ Kp [] W w' := by
  subst hE
  refine iContains_w lo hi x _ _ W fun V g ba bc hR ha hc => ?_
  exact iContains g ba bc lo hi x _ _ _ _ _ V hR ha hc (hc.ne hR) (Lib.hid fun W b0 hR hs => keep_1 g b0 lo hi W hR hs (sh_size9 a) (sh_size9 b)) (Lib.hid fun W => qCheck_any x W (sh_size9 c)) (kc_keep g _ _) (inside_any g _ lo hi x x (sh_size9 a) (sh_size9 b) (sh_size9 c) (sh_size9 c))
theorem bE_ne {e : Int} (h : e ≠ 0) (b : Bool) : bE e b = false := if_neg h
theorem bE_z (b : Bool) : bE 0 b = b := if_pos rfl
theorem contains_v {q r x : Rat} {j i : Nat} (hq : Sm j q) (hr : Sm j r) (hx : Sm i x) (h1 : j + i < 1024) (a : shB (RS q) = true) (b : shB (RS r) = true) (c : shB (RS x) = true) (e : icE (RS q) (RS r) = 0) :
    Ca 23 #[.agg #[.string (RS q), .string (RS r)], .string (RS x)] (.tuple #[.bool (decide (q ≤ x) && decide (x ≤ r)), .int .i64 0]) := Lib.hid fun W => by
  have := iContains_any _ _ _ a b c _ rfl W
  obtain ⟨v1, v2⟩ := cmp_v hq hx (by omega)
  obtain ⟨v3, v4⟩ := cmp_v hx hr (by omega)
  rw [e, (sp_RS (hx.ok (by omega))).2.2, v1, v2, v3, v4] at this
  simpa only [kp_zero, bE_z, cmR_le0] using this
theorem contains_both (lo hi x : ByteArray) (a : shB lo = true) (b : shB hi = true) (c : shB x = true) : ∃ (t : Bool) (E : Int),
    Ca 23 #[.agg #[.string lo, .string hi], .string x] (.tuple #[.bool t, .int .i64 E]) ∧ Ca 24 #[.agg #[.string lo, .string hi], .string x] (.tuple #[.bool t, .int .i64 E]) := by
  have bad : ∀ E : Int, E ≠ 0 → (∀ f g : Int, kp (kp (kp (icE lo hi) (spE x)) f) g = E) → Ca 24 #[.agg #[.string lo, .string hi], .string x] (.tuple #[.bool false, .int .i64 E]) → ∃ (t : Bool) (E : Int),
      Ca 23 #[.agg #[.string lo, .string hi], .string x] (.tuple #[.bool t, .int .i64 E]) ∧ Ca 24 #[.agg #[.string lo, .string hi], .string x] (.tuple #[.bool t, .int .i64 E]) := fun E h0 h q =>
    ⟨false, E, Lib.hid fun W => by
      have := iContains_any lo hi x a b c E (by rw [h]) W
      rw [bE_ne h0] at this
      exact this, q⟩
  rcases ic_cases a b with e | ⟨e, q, r, rfl, rfl, hq, hr, hle⟩
  · exact bad _ e (fun f g => by rw [kpI_ne e, kpI_ne e, kpI_ne e]) (Lib.hid fun W => r3Contains_1 lo hi x _ (by simpa using e) W (r3check_c a b))
  · have qc := r3check_c a b
    rw [e] at qc
    rcases sh_cases c with f | ⟨x, rfl, hx⟩
    · exact bad (spE x) f (fun _ _ => by rw [e, kp_zero, kpI_ne f, kpI_ne f]) (Lib.hid fun W => r3Contains_2 _ _ x _ (by simpa using f) W qc (r2check_c c))
    · have qd := r2check_c c
      rw [(sp_RS (hx.ok (by omega))).2.2] at qd
      exact ⟨_, _, contains_v hq hr hx (by omega) a b c e, Lib.hid fun W => r3Contains_3 _ _ _ _ W qc qd (in_c hq hr hx (by omega) (by omega))⟩

theorem iWithin_any (l1 h1 l2 h2 : ByteArray) (a : shB l1 = true) (b : shB h1 = true) (c : shB l2 = true) (d : shB h2 = true) (E : Int) (hE : E = kp (kp (kp (icE l1 h1) (icE l2 h2)) (qCmE l2 l1)) (qCmE h1 h2)) (W : World) :
    Calls Tryz.prog 25 #[.agg #[.string l1, .string h1], .agg #[.string l2, .string h2]] W fun r w' => r = .returned (.tuple #[.bool (bE E (decide (qCmV l2 l1 ≤ 0) && decide (qCmV h1 h2 ≤ 0))), .int .i64 E]) ∧ Kp [] W w' := by
  subst hE
  refine iWithin_w l1 h1 l2 h2 _ _ W fun V g ba bb hR ha hb => ?_
  exact iWithin g ba bb l1 h1 l2 h2 (kp (icE l1 h1) (icE l2 h2)) _ _ V hR ha hb (Lib.hid fun V b0 hR hs => keep_2 g b0 l1 h1 l2 h2 V hR hs (sh_size9 a) (sh_size9 b) (sh_size9 c) (sh_size9 d))
    (inside_any g _ l2 h2 l1 h1 (sh_size9 c) (sh_size9 d) (sh_size9 a) (sh_size9 b))
theorem within_v {q1 r1 q2 r2 : Rat} {j : Nat} (hq1 : Sm j q1) (hr1 : Sm j r1) (hq2 : Sm j q2) (hr2 : Sm j r2) (h : j + j ≤ 1024) (a : shB (RS q1) = true) (b : shB (RS r1) = true) (c : shB (RS q2) = true) (d : shB (RS r2) = true) (e : icE (RS q1) (RS r1) = 0) (f : icE (RS q2) (RS r2) = 0) :
    Ca 25 #[.agg #[.string (RS q1), .string (RS r1)], .agg #[.string (RS q2), .string (RS r2)]] (.tuple #[.bool (decide (q2 ≤ q1) && decide (r1 ≤ r2)), .int .i64 0]) := Lib.hid fun W => by
  have := iWithin_any _ _ _ _ a b c d _ rfl W
  obtain ⟨v1, v2⟩ := cmp_v hq2 hq1 h
  obtain ⟨v3, v4⟩ := cmp_v hr1 hr2 h
  rw [e, f, v1, v2, v3, v4] at this
  simpa only [kp_zero, bE_z, cmR_le0] using this
theorem within_both (l1 h1 l2 h2 : ByteArray) (a : shB l1 = true) (b : shB h1 = true) (c : shB l2 = true) (d : shB h2 = true) : ∃ (t : Bool) (E : Int),
    Ca 25 #[.agg #[.string l1, .string h1], .agg #[.string l2, .string h2]] (.tuple #[.bool t, .int .i64 E]) ∧ Ca 26 #[.agg #[.string l1, .string h1], .agg #[.string l2, .string h2]] (.tuple #[.bool t, .int .i64 E]) := by
  have qb := r3both_c a b c d
  have bad : kp (icE l1 h1) (icE l2 h2) ≠ 0 → ∃ (t : Bool) (E : Int),
      Ca 25 #[.agg #[.string l1, .string h1], .agg #[.string l2, .string h2]] (.tuple #[.bool t, .int .i64 E]) ∧ Ca 26 #[.agg #[.string l1, .string h1], .agg #[.string l2, .string h2]] (.tuple #[.bool t, .int .i64 E]) := fun he => by
    refine ⟨false, kp (icE l1 h1) (icE l2 h2), Lib.hid fun W => ?_, Lib.hid fun W => r3Within_e l1 h1 l2 h2 _ W (by simpa using he) qb⟩
    have := iWithin_any l1 h1 l2 h2 a b c d _ rfl W
    rw [kpI_ne he, kpI_ne he, bE_ne he] at this
    exact this
  rcases ic_cases a b with e | ⟨e, q1, r1, rfl, rfl, hq1, hr1, o1⟩
  · exact bad (by rw [kpI_ne e]; exact e)
  · rcases ic_cases c d with f | ⟨f, q2, r2, rfl, rfl, hq2, hr2, o2⟩
    · exact bad (by rw [e, kp_zero]; exact f)
    · rw [e, f, kp_zero] at qb
      refine ⟨_, 0, within_v hq1 hr1 hq2 hr2 (by omega) a b c d e f, Lib.hid fun W => ?_⟩
      have := r3Within_0 _ _ _ _ _ _ W qb (in_c hq2 hr2 hq1 (by omega) (by omega)) (in_c hq2 hr2 hr1 (by omega) (by omega))
      have eq : (decide (q2 ≤ q1) && decide (q1 ≤ r2) && (decide (q2 ≤ r1) && decide (r1 ≤ r2))) = (decide (q2 ≤ q1) && decide (r1 ≤ r2)) := by
        rw [Bool.eq_iff_iff]
        simp only [Bool.and_eq_true, decide_eq_true_eq]
        constructor
        · rintro ⟨⟨x, _⟩, _, y⟩; exact ⟨x, y⟩
        · rintro ⟨x, y⟩; exact ⟨⟨x, by grind⟩, by grind, y⟩
      rwa [eq] at this

end Go.Proofs.YtabepobcmpmkdaaGreat
