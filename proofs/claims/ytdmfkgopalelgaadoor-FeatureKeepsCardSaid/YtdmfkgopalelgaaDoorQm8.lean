/- Features: the law Keeps. -/
import Derived.Test.YtdmfkgopalelgaaDoorQm7
import Derived.Test.YtdmfkgopalelgaaDoorQm6
import Derived.Test.YtdmfkgopalelgaaDoorQh2
namespace Go.Proofs.YtdmfkgopalelgaaDoor
open Go.RowKit

/-- whether two right features are separate -/
def spB (k a x y z h k2 a2 x2 y2 z2 h2 : Int) : Bool := any3 (apR (fun c => bdB k a c) (fun c => bdB k2 a2 c) (fun j => co3 x y z j - h) (fun j => co3 x y z j + h) (fun j => co3 x2 y2 z2 j - h2) (fun j => co3 x2 y2 z2 j + h2))
theorem fSepR (n : ByteArray) (k a x y z lo hi : Int) (fp : Option Addr) (fl fc : Nat) (n2 : ByteArray) (k2 a2 x2 y2 z2 lo2 hi2 : Int) (fp2 : Option Addr) (fl2 fc2 : Nat) (hn : n.size ≤ 1000000) (hn2 : n2.size ≤ 1000000) (e1 : ftE n k a x y z lo hi = 0) (e2 : ftE n2 k2 a2 x2 y2 z2 lo2 hi2 = 0) : Cg 22 #[.agg #[.string n, .int .i64 k, .int .i64 a, .int .i64 x, .int .i64 y, .int .i64 z, .int .i64 lo, .int .i64 hi, .slice fp fl fc], .agg #[.string n2, .int .i64 k2, .int .i64 a2, .int .i64 x2, .int .i64 y2, .int .i64 z2, .int .i64 lo2, .int .i64 hi2, .slice fp2 fl2 fc2]] (.tuple #[.bool (spB k a x y z (hf hi) k2 a2 x2 y2 z2 (hf hi2)), .int .i64 0]) := Lib.hid fun w gl => by
  have q1 := fCheck n k a x y z lo hi fp fl fc hn
  have q2 := fCheck n2 k2 a2 x2 y2 z2 lo2 hi2 fp2 fl2 fc2 hn2
  rw [e1] at q1
  rw [e2] at q2
  obtain ⟨px, py, pz⟩ := ft_pl e1
  obtain ⟨px2, py2, pz2⟩ := ft_pl e2
  have S := fun w gl => fSeparate_2 n k a x y z lo hi fp fl fc n2 k2 a2 x2 y2 z2 lo2 hi2 fp2 fl2 fc2 _ _ _ _ q1 q2 (fhalf_hf n k a x y z lo hi fp fl fc e1) (fhalf_hf n2 k2 a2 x2 y2 z2 lo2 hi2 fp2 fl2 fc2 e2) _ _ _ _ _ _ (fun _ => rfl) (fun _ => rfl) (fun _ => rfl) rfl (fun c hc => fbounded n k a x y z lo hi fp fl fc c (ft_k e1)) (fun c hc => fbounded n2 k2 a2 x2 y2 z2 lo2 hi2 fp2 fl2 fc2 c (ft_k e2)) rfl w gl
  unfold spB
  rw [← sep_eq (co3_in px py pz) (co3_in px2 py2 pz2) (hf_in (ft_hi e1).1 (ft_hi e1).2) (hf_in (ft_hi e2).1 (ft_hi e2).2)]
  exact S w gl
theorem bd_tr {k a c i : Int} (ha : a = 0 ∨ a = 1 ∨ a = 2) (hc : c = 0 ∨ c = 1 ∨ c = 2) (hi : i = 0 ∨ i = 1 ∨ i = 2) : bdB k (trA c k a) i = bdB k a (trA c 0 i) := by
  unfold bdB
  by_cases h4 : k = 4
  · rw [if_pos h4, if_pos h4]
  · rw [if_neg h4, if_neg h4]
    have e : trA c k a = trA c 0 a := by
      unfold trA
      by_cases h : a = c
      · rw [if_pos (.inr h), if_pos (.inr h)]
      · rw [if_neg (by omega), if_neg (by omega)]
    rw [e]
    by_cases h : k = 1 ∨ k = 2
    · rw [if_pos h, if_pos h]
      rcases ha with rfl | rfl | rfl <;> rcases hc with rfl | rfl | rfl <;> rcases hi with rfl | rfl | rfl <;> rfl
    · rw [if_neg h, if_neg h]
      rcases ha with rfl | rfl | rfl <;> rcases hc with rfl | rfl | rfl <;> rcases hi with rfl | rfl | rfl <;> rfl
theorem ap_neg (u v h h2 : Int) : (decide (-u + h < -v - h2) || decide (-v + h2 < -u - h)) = (decide (u + h < v - h2) || decide (v + h2 < u - h)) := by
  rw [Bool.or_comm]
  congr 1 <;> exact decide_eq_decide.2 (by omega)
/-- one axis of the comparison -/
def ap1 (o o2 : Bool) (u h v h2 : Int) : Bool := o && o2 && (decide (u + h < v - h2) || decide (v + h2 < u - h))
theorem ap1_neg (o o2 : Bool) (u h v h2 : Int) : ap1 o o2 (-u) h (-v) h2 = ap1 o o2 u h v h2 := by unfold ap1; rw [ap_neg]
theorem spB_3 (k a x y z h k2 a2 x2 y2 z2 h2 : Int) : spB k a x y z h k2 a2 x2 y2 z2 h2 = (ap1 (bdB k a 0) (bdB k2 a2 0) x h x2 h2 || ap1 (bdB k a 1) (bdB k2 a2 1) y h y2 h2 || ap1 (bdB k a 2) (bdB k2 a2 2) z h z2 h2) := rfl
theorem or_132 (a b c : Bool) : (a || c || b) = (a || b || c) := by cases a <;> cases b <;> cases c <;> rfl
theorem or_321 (a b c : Bool) : (c || b || a) = (a || b || c) := by cases a <;> cases b <;> cases c <;> rfl
theorem or_213 (a b c : Bool) : (b || a || c) = (a || b || c) := by cases a <;> cases b <;> cases c <;> rfl
theorem sp_tr {k a x y z h k2 a2 x2 y2 z2 h2 c : Int} (ha : a = 0 ∨ a = 1 ∨ a = 2) (ha2 : a2 = 0 ∨ a2 = 1 ∨ a2 = 2) (hc : c = 0 ∨ c = 1 ∨ c = 2) :
    spB k (trA c k a) (tr1 c x y z) (tr2 c x y z) (tr3 c x y z) h k2 (trA c k2 a2) (tr1 c x2 y2 z2) (tr2 c x2 y2 z2) (tr3 c x2 y2 z2) h2 = spB k a x y z h k2 a2 x2 y2 z2 h2 := by
  have b0 := bd_tr (k := k) ha hc (.inl rfl)
  have b1 := bd_tr (k := k) ha hc (.inr (.inl rfl))
  have b2 := bd_tr (k := k) ha hc (.inr (.inr rfl))
  have d0 := bd_tr (k := k2) ha2 hc (.inl rfl)
  have d1 := bd_tr (k := k2) ha2 hc (.inr (.inl rfl))
  have d2 := bd_tr (k := k2) ha2 hc (.inr (.inr rfl))
  rw [spB_3, spB_3, b0, b1, b2, d0, d1, d2]
  rcases hc with rfl | rfl | rfl
  · show (ap1 (bdB k a 0) (bdB k2 a2 0) x h x2 h2 || ap1 (bdB k a 2) (bdB k2 a2 2) (-z) h (-z2) h2 || ap1 (bdB k a 1) (bdB k2 a2 1) y h y2 h2) = _
    rw [ap1_neg]; exact or_132 _ _ _
  · show (ap1 (bdB k a 2) (bdB k2 a2 2) z h z2 h2 || ap1 (bdB k a 1) (bdB k2 a2 1) y h y2 h2 || ap1 (bdB k a 0) (bdB k2 a2 0) (-x) h (-x2) h2) = _
    rw [ap1_neg]; exact or_321 _ _ _
  · show (ap1 (bdB k a 1) (bdB k2 a2 1) (-y) h (-y2) h2 || ap1 (bdB k a 0) (bdB k2 a2 0) x h x2 h2 || ap1 (bdB k a 2) (bdB k2 a2 2) z h z2 h2) = _
    rw [ap1_neg]; exact or_213 _ _ _
theorem sp_mr {k a x y z h k2 a2 x2 y2 z2 h2 c : Int} (hc : c = 0 ∨ c = 1 ∨ c = 2) :
    spB k a (mr1 c x) (mr2 c y) (mr3 c z) h k2 a2 (mr1 c x2) (mr2 c y2) (mr3 c z2) h2 = spB k a x y z h k2 a2 x2 y2 z2 h2 := by
  rw [spB_3, spB_3]
  rcases hc with rfl | rfl | rfl
  · show (ap1 _ _ (-x) h (-x2) h2 || ap1 _ _ y h y2 h2 || ap1 _ _ z h z2 h2) = _
    rw [ap1_neg]
  · show (ap1 _ _ x h x2 h2 || ap1 _ _ (-y) h (-y2) h2 || ap1 _ _ z h z2 h2) = _
    rw [ap1_neg]
  · show (ap1 _ _ x h x2 h2 || ap1 _ _ y h y2 h2 || ap1 _ _ (-z) h (-z2) h2) = _
    rw [ap1_neg]
/-- the reach of a right feature along an axis, as numbers -/
def rcE (b : Bool) (u h : Int) : Int := if b = true then (if lmE (u - h) (u + h) = 0 then 0 else 2) else 14
def rcL (b : Bool) (u h : Int) : Int := if rcE b u h = 0 then u - h else 0
def rcH (b : Bool) (u h : Int) : Int := if rcE b u h = 0 then u + h else 0
theorem fReachR (n : ByteArray) (k a x y z lo hi : Int) (fp : Option Addr) (fl fc : Nat) (i : Nat) (hi3 : i < 3) (hn : n.size ≤ 1000000) (h : ftE n k a x y z lo hi = 0) : Cg 20 #[.agg #[.string n, .int .i64 k, .int .i64 a, .int .i64 x, .int .i64 y, .int .i64 z, .int .i64 lo, .int .i64 hi, .slice fp fl fc], .int .i64 i] (.tuple #[.agg #[.int .i64 (rcL (bdB k a i) (co3 x y z i) (hf hi)), .int .i64 (rcH (bdB k a i) (co3 x y z i) (hf hi))], .int .i64 (rcE (bdB k a i) (co3 x y z i) (hf hi))]) := by
  have h3 : i = 0 ∨ i = 1 ∨ i = 2 := by omega
  have qa := fcheckAlong n k a x y z lo hi fp fl fc i hn
  rw [h, show axE (i : Int) = 0 by rcases h3 with rfl | rfl | rfl <;> rfl, show firstE [firstE [0], firstE [0]] = 0 by decide] at qa
  rcases Bool.eq_false_or_eq_true (bdB k a i) with hb | hb
  · obtain ⟨px, py, pz⟩ := ft_pl h
    obtain ⟨g1, g2, g3⟩ := of_reach (co3_in px py pz i) (hf_in (ft_hi h).1 (ft_hi h).2)
    have qo := dOf (co3 x y z i) (wrap64 (-(hf hi))) (hf hi)
    rw [g1, g2, g3] at qo
    have q := reach_at n k a x y z lo hi fp fl fc i hi3 hn h _ _ _ qo hb
    rw [hb]
    unfold rcL rcH rcE
    rw [if_pos rfl]
    by_cases e2 : lmE (co3 x y z i - hf hi) (co3 x y z i + hf hi) = 0
    · rw [if_pos e2, zI_0, zI_0] at q
      rw [if_pos e2, if_pos rfl, if_pos rfl]; exact q
    · rw [if_neg e2, zI_e (by decide), zI_e (by decide)] at q
      rw [if_neg e2, if_neg (by decide), if_neg (by decide)]; exact q
  · have qb := fbounded n k a x y z lo hi fp fl fc i (ft_k h)
    rw [hb] at qb ⊢
    exact Lib.hid fun w gl => fReachC_2 n k a x y z lo hi fp fl fc i _ _ qa qb rfl rfl w gl
theorem cKeeps (nu : ByteArray) (ku : Int) (au : Int) (xu : Int) (yu : Int) (zu : Int) (lou : Int) (hiu : Int) (fpu : Option Addr) (flu : Nat) (fcu : Nat) (nv : ByteArray) (kv : Int) (av : Int) (xv : Int) (yv : Int) (zv : Int) (lov : Int) (hiv : Int) (fpv : Option Addr) (flv : Nat) (fcv : Nat) (fsu fsv : List FrT) (c : Int) (c0 : 0 ≤ c) (c1 : c ≤ 255) (w : World) (gl : Gl w) (du : FrS w (.slice fpu flu fcu) fsu) (dv : FrS w (.slice fpv flv fcv) fsv) : Calls Tryd.prog 9 #[.agg #[.string nu, .int .i64 ku, .int .i64 au, .int .i64 xu, .int .i64 yu, .int .i64 zu, .int .i64 lou, .int .i64 hiu, .slice fpu flu fcu], .agg #[.string nv, .int .i64 kv, .int .i64 av, .int .i64 xv, .int .i64 yv, .int .i64 zv, .int .i64 lov, .int .i64 hiv, .slice fpv flv fcv], .int .u8 c] w fun r W' => r = .returned (.bool true) ∧ Kb w W' := by
  have qu := cRight nu ku au xu yu zu lou hiu fpu flu fcu fsu
  have qv := cRight nv kv av xv yv zv lov hiv fpv flv fcv fsv
  by_cases h : rtB nu ku au xu yu zu lou hiu fsu = true
  · rw [h] at qu
    by_cases h2 : rtB nv kv av xv yv zv lov hiv fsv = true
    · rw [h2] at qv
      have hf : fewB nu fsu = true ∧ ftE nu ku au xu yu zu lou hiu = 0 := by unfold rtB at h; simpa using h
      have hf2 : fewB nv fsv = true ∧ ftE nv kv av xv yv zv lov hiv = 0 := by unfold rtB at h2; simpa using h2
      obtain ⟨hf, he⟩ := hf
      obtain ⟨hf2, he2⟩ := hf2
      have hn := few_n hf
      have hn2 := few_n hf2
      obtain ⟨d, ed, hc⟩ := tmod3 c0
      have au0 := ft_ax he
      have av0 := ft_ax he2
      have t1 := ft_tr he hc
      have t2 := ft_tr he2 hc
      have m1 := ft_mr (c := d) he
      have m2 := ft_mr (c := d) he2
      have s0 := fun p l c p2 l2 c2 => fSepR nu ku au xu yu zu lou hiu p l c nv kv av xv yv zv lov hiv p2 l2 c2 hn hn2 he he2
      have s1 := fun p l c p2 l2 c2 => fSepR nu ku (trA d ku au) (tr1 d xu yu zu) (tr2 d xu yu zu) (tr3 d xu yu zu) lou hiu p l c nv kv (trA d kv av) (tr1 d xv yv zv) (tr2 d xv yv zv) (tr3 d xv yv zv) lov hiv p2 l2 c2 hn hn2 t1 t2
      have s2 := fun p l c p2 l2 c2 => fSepR nu ku au (mr1 d xu) (mr2 d yu) (mr3 d zu) lou hiu p l c nv kv av (mr1 d xv) (mr2 d yv) (mr3 d zv) lov hiv p2 l2 c2 hn hn2 m1 m2
      rw [sp_tr au0 av0 hc] at s1
      rw [sp_mr hc] at s2
      obtain ⟨i, rfl⟩ : ∃ i : Nat, d = i := ⟨d.toNat, by omega⟩
      have r0 := fun p l c => fReachR nu ku au xu yu zu lou hiu p l c i (by omega) hn he
      have r1 := fun p l c => fReachR nu ku (trA i ku au) (tr1 i xu yu zu) (tr2 i xu yu zu) (tr3 i xu yu zu) lou hiu p l c i (by omega) hn t1
      rw [bd_tr au0 hc hc, show trA i 0 i = i from if_pos (.inr rfl), show co3 (tr1 i xu yu zu) (tr2 i xu yu zu) (tr3 i xu yu zu) i = co3 xu yu zu i by
        have h3 : i = 0 ∨ i = 1 ∨ i = 2 := by omega
        rcases h3 with rfl | rfl | rfl <;> rfl] at r1
      exact kpC_1 nu ku au xu yu zu lou hiu fpu flu fcu nv kv av xv yv zv lov hiv fpv flv fcv fsu fsv c i _ _ _ _ _ _ _ _ _ _ _ _ _ _ _ _ _ _  qu qv (qTurn nu ku au xu yu zu lou hiu fsu i hf he hc rfl rfl rfl rfl) (qTurn nv kv av xv yv zv lov hiv fsv i hf2 he2 hc rfl rfl rfl rfl) (qMirror nu ku au xu yu zu lou hiu fsu i hf he hc rfl rfl rfl) (qMirror nv kv av xv yv zv lov hiv fsv i hf2 he2 hc rfl rfl rfl) s0 s1 s2 r0 r1 c0 c1 ed (by omega) (by omega) w gl du dv
    · rw [show rtB nv kv av xv yv zv lov hiv fsv = false by simpa using h2] at qv
      exact kpB_1 nu ku au xu yu zu lou hiu fpu flu fcu nv kv av xv yv zv lov hiv fpv flv fcv fsu fsv c 0 false 0 0 0 0 0 0 0 0 0 0 0 0 0 0 0 0 0  qu qv w gl du dv
  · rw [show rtB nu ku au xu yu zu lou hiu fsu = false by simpa using h] at qu
    exact kpA_1 nu ku au xu yu zu lou hiu fpu flu fcu nv kv av xv yv zv lov hiv fpv flv fcv fsu fsv c 0 false 0 0 0 0 0 0 0 0 0 0 0 0 0 0 0 0 0  qu w gl du dv
end Go.Proofs.YtdmfkgopalelgaaDoor
