/- Texts Ur1, Uq2: each says in its own first comment what it proves. -/
import Derived.Test.YtlimjohnimgnhaaGreatDoorM44
import Derived.Lib.SplitLaws
import Derived.Lib.AtoiAllCases
import Derived.Lib.AtoiTie
import Derived.Test.YtlimjohnimgnhaaGreatDoorM19
import Derived.Test.YtlimjohnimgnhaaGreatDoorM22
import Derived.Test.YtlimjohnimgnhaaGreatDoorM38
import Derived.Test.YtlimjohnimgnhaaGreatDoorM45
import Derived.Lib.MinMax
import Derived.Test.YtlimjohnimgnhaaGreatDoorM28
import Derived.Lib.SliceRun
/- Frames: the words of a frame's text; what is read of them. -/
namespace Go.Proofs.YtlimjohnimgnhaaGreatDoor
open Go.RowKit

/-- words with blanks between them -/
def joinL : List (List UInt8) → List UInt8
  | [] => []
  | [w] => w
  | w :: v :: l => w ++ 32 :: joinL (v :: l)
theorem joinL_cons (w : List UInt8) (l : List (List UInt8)) (h : l ≠ []) : joinL (w :: l) = w ++ 32 :: joinL l := by
  cases l with
  | nil => exact absurd rfl h
  | cons v l => rfl
theorem joinL_snoc (x : List UInt8) : ∀ l : List (List UInt8), l ≠ [] → joinL (l ++ [x]) = joinL l ++ 32 :: x
  | [], h => absurd rfl h
  | [w], _ => rfl
  | w :: v :: l, _ => by
    have := joinL_snoc x (v :: l) (by simp)
    show joinL (w :: (v :: l ++ [x])) = _
    rw [joinL_cons w (v :: l ++ [x]) (by simp), this, joinL_cons w (v :: l) (by simp)]
    simp
theorem index_some (w r : List UInt8) (h : (32 : UInt8) ∉ w) : Lib.index (w ++ 32 :: r) [32] = (w.length : Int) := by
  induction w with
  | nil => simp [Lib.index, List.isPrefixOf]
  | cons b w ih =>
    have hb : ¬ (32 : UInt8) = b := fun e => h (by simp [e])
    rw [List.cons_append, Lib.index, ih (fun e => h (by simp [e]))]
    have h1 : ([32] : List UInt8).isPrefixOf (b :: (w ++ 32 :: r)) = false := by simp [List.isPrefixOf, hb]
    rw [h1, if_neg (by decide), if_neg (by simp)]
    simp
theorem split_join : ∀ ws : List (List UInt8), ws ≠ [] → (∀ w ∈ ws, (32 : UInt8) ∉ w) → Lib.splitK [32] 0 (ws.length - 1) (joinL ws) = ws
  | [], h, _ => absurd rfl h
  | [w], _, _ => rfl
  | w :: v :: l, _, hw => by
    have ih := split_join (v :: l) (by simp) (fun x hx => hw x (by simp [hx]))
    have hi := index_some w (joinL (v :: l)) (hw w (by simp))
    rw [joinL_cons _ _ (by simp)]
    show Lib.splitK [32] 0 ((v :: l).length - 1 + 1) _ = _
    rw [Lib.splitK, hi, if_neg (by simp)]
    have e1 : ((w.length : Int).toNat + 0) = w.length := by simp
    have e2 : ((w.length : Int).toNat + ([32] : List UInt8).length) = w.length + 1 := by simp
    rw [e1, e2, List.take_left' rfl]
    have e3 : (w ++ 32 :: joinL (v :: l)).drop (w.length + 1) = joinL (v :: l) := by
      rw [List.drop_append, List.drop_of_length_le (by omega)]; simp
    rw [e3, ih]
theorem count_join : ∀ ws : List (List UInt8), ws ≠ [] → (∀ w ∈ ws, (32 : UInt8) ∉ w) → Lib.count (joinL ws) [32] = ws.length - 1
  | [], h, _ => absurd rfl h
  | [w], _, hw => by
    rw [Lib.count_one]
    exact List.count_eq_zero.2 (hw w (by simp))
  | w :: v :: l, _, hw => by
    have ih := count_join (v :: l) (by simp) (fun x hx => hw x (by simp [hx]))
    rw [Lib.count_one] at ih ⊢
    rw [joinL_cons _ _ (by simp), List.count_append, List.count_cons_self, ih, List.count_eq_zero.2 (hw w (by simp))]
    simp
theorem ba_eta (x : ByteArray) : (⟨x.data.toList.toArray⟩ : ByteArray) = x := by cases x; simp
theorem ba_inj {x y : ByteArray} (h : x.data.toList = y.data.toList) : x = y := by rw [← ba_eta x, ← ba_eta y, h]
theorem map_inj : ∀ {a b : List ByteArray}, a.map (·.data.toList) = b.map (·.data.toList) → a = b
  | [], [], _ => rfl
  | [], _ :: _, h => by simp at h
  | _ :: _, [], h => by simp at h
  | x :: a, y :: b, h => by
    simp only [List.map_cons, List.cons.injEq] at h
    rw [ba_inj h.1, map_inj h.2]
/-- a text of words is split into them -/
theorem splV_join {s : ByteArray} {ws : List ByteArray} (h0 : ws ≠ []) (hw : ∀ w ∈ ws, (32 : UInt8) ∉ w.data.toList) (hs : s.data.toList = joinL (ws.map (·.data.toList))) : splV s = ws ∧ Lib.countB s ⟨#[32]⟩ + 1 = ws.length := by
  have hm : ∀ w ∈ ws.map (·.data.toList), (32 : UInt8) ∉ w := fun w h => by
    obtain ⟨x, hx, rfl⟩ := List.mem_map.1 h
    exact hw x hx
  have hn : ws.map (·.data.toList) ≠ [] := by simpa using h0
  have hp : 0 < ws.length := List.length_pos_iff.2 h0
  have hc : Lib.countB s ⟨#[32]⟩ = ws.length - 1 := by
    show Lib.count s.data.toList _ = _
    rw [hs]
    have := count_join _ hn hm
    simpa using this
  refine ⟨?_, by omega⟩
  unfold splV
  rw [hc]
  refine map_inj ?_
  rw [Lib.splitB_data, hs]
  have := split_join _ hn hm
  rw [List.length_map] at this
  exact this
/-- a word with a mark -/
def wdM (x : ByteArray) (m : Nat) : ByteArray := ⟨(x.data.toList ++ mkL m).toArray⟩
theorem wdM_l (x : ByteArray) (m : Nat) : (wdM x m).data.toList = x.data.toList ++ mkL m := by unfold wdM; simp
theorem suf_same (a p : List UInt8) : Lib.hasSuffix (a ++ p) p = true := by
  unfold Lib.hasSuffix
  rw [List.isSuffixOf_iff_suffix]
  exact List.suffix_append _ _
theorem suf_ne {l p : List UInt8} (h : ¬ p <:+ l) : Lib.hasSuffix l p = false := by
  unfold Lib.hasSuffix
  rw [Bool.eq_false_iff]
  exact fun e => h (List.isSuffixOf_iff_suffix.1 e)
theorem spV_wdM (x : ByteArray) (m : Nat) (hm : m < 3) (hx : (41 : UInt8) ∉ x.data.toList) : spV (wdM x m) = (x, (m : Int)) := by
  have hcut : ∀ p : ByteArray, (wdM x m).data.toList = x.data.toList ++ p.data.toList → cutV (wdM x m) p = x := fun p hp => by
    refine ba_inj ?_
    unfold cutV
    rw [hp]
    show (Lib.trimSuffix _ _).toArray.toList = _
    unfold Lib.trimSuffix
    rw [if_pos (suf_same _ _)]
    simp
  rcases (show m = 0 ∨ m = 1 ∨ m = 2 by omega) with rfl | rfl | rfl
  · have e : wdM x 0 = x := ba_inj (by rw [wdM_l]; simp [mkL])
    have n1 : ∀ c : UInt8, ¬ [40, c, 41] <:+ x.data.toList := fun c h => hx (h.subset (by simp))
    rw [e]
    unfold spV sufB
    rw [suf_ne (n1 77), if_neg (by decide), suf_ne (n1 76), if_neg (by decide)]
    rfl
  · have e := wdM_l x 1
    unfold spV sufB
    rw [e, show mkL 1 = (⟨#[40, 77, 41]⟩ : ByteArray).data.toList from rfl, suf_same, if_pos rfl, hcut _ (by rw [e]; rfl)]
    rfl
  · have e := wdM_l x 2
    have n1 : ¬ [40, 77, 41] <:+ x.data.toList ++ [40, 76, 41] := fun ⟨t, ht⟩ => by
      have := (List.append_inj' ht rfl).2
      simp at this
    unfold spV sufB
    rw [e, show mkL 2 = (⟨#[40, 76, 41]⟩ : ByteArray).data.toList from rfl]
    rw [show Lib.hasSuffix (x.data.toList ++ (⟨#[40, 76, 41]⟩ : ByteArray).data.toList) (⟨#[40, 77, 41]⟩ : ByteArray).data.toList = false from suf_ne n1, if_neg (by decide), suf_same, if_pos rfl, hcut _ (by rw [e]; rfl)]
    rfl
/-- the digits of a number -/
theorem dig_val (d : Nat) (h : d < 10) : Lib.digitVal (UInt8.ofNat (48 + d)) = some d := by
  rcases (show d = 0 ∨ d = 1 ∨ d = 2 ∨ d = 3 ∨ d = 4 ∨ d = 5 ∨ d = 6 ∨ d = 7 ∨ d = 8 ∨ d = 9 by omega) with rfl | rfl | rfl | rfl | rfl | rfl | rfl | rfl | rfl | rfl <;> rfl
theorem decFrom_app (l : List UInt8) (b : UInt8) (d : Nat) (hd : Lib.digitVal b = some d) : ∀ acc n, Lib.decFrom acc l = some n → Lib.decFrom acc (l ++ [b]) = some (n * 10 + d) := by
  induction l with
  | nil =>
    intro acc n h
    simp only [Lib.decFrom, Option.some.injEq] at h
    subst h
    simp [Lib.decFrom, hd]
  | cons a l ih =>
    intro acc n h
    rw [List.cons_append]
    simp only [Lib.decFrom] at h ⊢
    cases ha : Lib.digitVal a with
    | none => simp [ha] at h
    | some e =>
      simp only [ha] at h ⊢
      exact ih _ _ h
theorem dec_digits (u : Nat) : Lib.decFrom 0 (Lib.decDigits u) = some u := by
  induction u using Nat.strongRecOn with
  | ind u ih =>
    rw [Lib.decDigits]
    split
    · rename_i h
      rw [Lib.decFrom, dig_val u h]
      show Lib.decFrom (0 * 10 + u) [] = some u
      rw [Lib.decFrom, Nat.zero_mul, Nat.zero_add]
    · rename_i h
      rw [decFrom_app _ _ (u % 10) (dig_val _ (Nat.mod_lt _ (by decide))) 0 (u / 10) (ih _ (by omega))]
      congr 1
      omega
theorem dig_all (u : Nat) : ∀ c ∈ Lib.decDigits u, 48 ≤ c.toNat ∧ c.toNat ≤ 57 := by
  induction u using Nat.strongRecOn with
  | ind u ih =>
    have one : ∀ d < 10, 48 ≤ (UInt8.ofNat (48 + d)).toNat ∧ (UInt8.ofNat (48 + d)).toNat ≤ 57 := fun d h => by
      rcases (show d = 0 ∨ d = 1 ∨ d = 2 ∨ d = 3 ∨ d = 4 ∨ d = 5 ∨ d = 6 ∨ d = 7 ∨ d = 8 ∨ d = 9 by omega) with rfl | rfl | rfl | rfl | rfl | rfl | rfl | rfl | rfl | rfl <;> decide
    intro c hc
    rw [Lib.decDigits] at hc
    split at hc
    · rename_i h
      rw [List.mem_singleton] at hc
      subst hc
      exact one u h
    · rename_i h
      rcases List.mem_append.1 hc with hc | hc
      · exact ih _ (by omega) c hc
      · rw [List.mem_singleton] at hc
        subst hc
        exact one (u % 10) (Nat.mod_lt _ (by decide))
theorem dig_ne (u : Nat) : Lib.decDigits u ≠ [] := by
  rw [Lib.decDigits]
  split <;> simp
theorem itV_l {t : Int} (h : 0 ≤ t) : (itV t).data.toList = Lib.decDigits t.toNat := by
  unfold itV Lib.itoa
  rw [if_neg (by omega)]
theorem dig_len (u : Nat) (h : u ≤ 1000000) : (Lib.decDigits u).length ≤ 7 := by
  rw [Lib.decDigits_length]
  rcases Nat.lt_or_ge (Lib.nDigits u) 8 with h1 | h1
  · omega
  · exfalso
    have h2 : 10 ^ 7 ≤ u := by
      have h4 := Lib.nDigits_pos u
      have key : ∀ k v, k + 1 ≤ Lib.nDigits v → 10 ^ k ≤ v ∨ k = 0 := by
        intro k
        induction k with
        | zero => intro v _; exact .inr rfl
        | succ k ih =>
          intro v hv
          left
          rcases Nat.lt_or_ge v 10 with h5 | h5
          · rw [Lib.nDigits_small h5] at hv; omega
          · rw [Lib.nDigits_big (by omega)] at hv
            rcases ih (v / 10) (by omega) with h6 | rfl
            · rw [Nat.pow_succ]; omega
            · simpa using h5
      rcases key 7 u (by omega) with h6 | h6
      · exact h6
      · omega
    omega
theorem atV_itV {t : Int} (h0 : 0 ≤ t) (h1 : t ≤ 1000000) : atV (itV t) = t := by
  have hl := itV_l h0
  have hlen := dig_len t.toNat (by omega)
  have hall := dig_all t.toNat
  have hdec := dec_digits t.toNat
  have hne := dig_ne t.toNat
  unfold atV
  rw [hl]
  have e : Lib.atoiAll (Lib.decDigits t.toNat) = .ok t := by
    cases hd : Lib.decDigits t.toNat with
    | nil => exact absurd hd hne
    | cons c r =>
      rw [hd] at hlen hall hdec
      have hc := hall c (by simp)
      rw [Lib.atoiAll_plain c r (by omega) (by omega), Lib.signless_short (by omega)]
      have : Lib.decNat (c :: r) = some t.toNat := by unfold Lib.decNat; simpa using hdec
      rw [this]
      show Lib.NumEnd.ofOption (some (t.toNat : Int)) = _
      rw [Int.toNat_of_nonneg h0]
      rfl
  rw [e]
end Go.Proofs.YtlimjohnimgnhaaGreatDoor

/- Frames: frames in another order, and fewer of them. -/
namespace Go.Proofs.YtlimjohnimgnhaaGreatDoor
open Go.RowKit

theorem alE_zero {n : ByteArray} {k a x y z lo hi : Int} {fs : List FrT} : alE n k a x y z lo hi fs = 0 ↔ ftE n k a x y z lo hi = 0 ∧ fs.length ≤ 8 ∧ (∀ f ∈ fs, fcF n k a x y z lo hi f = 0) ∧ fs.Pairwise fun f g => f.k ≠ g.k := by
  unfold alE
  by_cases h1 : ftE n k a x y z lo hi = 0
  · rw [if_pos h1]
    by_cases h2 : 8 < fs.length
    · rw [if_pos h2]
      exact ⟨fun h => absurd h (by decide), fun h => absurd h.2.1 (by omega)⟩
    · rw [if_neg h2, fsF_zero]
      exact ⟨fun h => ⟨h1, by omega, h.1, h.2.1⟩, fun h => ⟨h.2.2.1, h.2.2.2, fun f _ g hg => absurd hg (by simp)⟩⟩
  · rw [if_neg h1]
    exact ⟨fun h => absurd h h1, fun h => absurd h.1 h1⟩
theorem alE_rev {n : ByteArray} {k a x y z lo hi : Int} {fs : List FrT} (h : alE n k a x y z lo hi fs = 0) : alE n k a x y z lo hi fs.reverse = 0 := by
  obtain ⟨h1, h2, h3, h4⟩ := alE_zero.1 h
  refine alE_zero.2 ⟨h1, by simpa using h2, fun f hf => h3 f (by simpa using hf), ?_⟩
  rw [List.pairwise_reverse]
  exact h4.imp fun h e => h e.symm
theorem alE_drop {n : ByteArray} {k a x y z lo hi : Int} {fs : List FrT} (i : Nat) (h : alE n k a x y z lo hi fs = 0) : alE n k a x y z lo hi (fs.drop i) = 0 := by
  obtain ⟨h1, h2, h3, h4⟩ := alE_zero.1 h
  exact alE_zero.2 ⟨h1, by simp; omega, fun f hf => h3 f (List.mem_of_mem_drop hf), h4.drop⟩
theorem nmL_mem {fs : List FrT} {s : List UInt8} : s ∈ nmL fs ↔ ∃ f ∈ fs, s ∈ nmD f.ds := by unfold nmL; rw [List.mem_flatMap]
theorem dtV_0 {n : ByteArray} {k a x y z lo hi : Int} {fs : List FrT} (h : alE n k a x y z lo hi fs = 0) : dtV n k a x y z lo hi fs = srt (nmL fs) := by unfold dtV; rw [if_pos h]
theorem dtV_rev {n : ByteArray} {k a x y z lo hi : Int} {fs : List FrT} (h : alE n k a x y z lo hi fs = 0) : dtV n k a x y z lo hi fs.reverse = dtV n k a x y z lo hi fs := by
  rw [dtV_0 h, dtV_0 (alE_rev h)]
  exact srt_eq fun x => by simp [nmL_mem]
theorem dtV_sub {n : ByteArray} {k a x y z lo hi : Int} {fs : List FrT} (i : Nat) (h : alE n k a x y z lo hi fs = 0) : ∀ s ∈ dtV n k a x y z lo hi (fs.reverse.drop i), s ∈ dtV n k a x y z lo hi fs := by
  intro s hs
  rw [dtV_0 (alE_drop i (alE_rev h)), srt_mem, nmL_mem] at hs
  rw [dtV_0 h, srt_mem, nmL_mem]
  obtain ⟨f, hf, h2⟩ := hs
  exact ⟨f, by simpa using List.mem_of_mem_drop hf, h2⟩
theorem dtV_asc {n : ByteArray} {k a x y z lo hi : Int} (fs : List FrT) : Asc (dtV n k a x y z lo hi fs) := by
  unfold dtV
  split
  · exact srt_asc _
  · exact List.Pairwise.nil
theorem dtV_len2 {n : ByteArray} {k a x y z lo hi : Int} {fs : List FrT} (hF : fs.length ≤ 12) (hz : ∀ f ∈ fs, f.ds.length ≤ 6 ∧ ∀ d ∈ f.ds, d.1.size ≤ 1000000) : (dtV n k a x y z lo hi fs).length ≤ 72 := by
  have hN := nmL_le fs fun f h => (hz f h).1
  have h1 := srt_len (nmL fs)
  unfold dtV
  split
  · omega
  · simp
theorem SlS.shape {w : World} {v : Value} {ss : List (List UInt8)} (h : SlS w v ss) : ∃ p l c, v = .slice p l c ∧ l = ss.length := by
  obtain ⟨p, c, e, _⟩ := h
  exact ⟨p, _, c, e, by simp⟩
set_option maxRecDepth 100000 in
set_option maxHeartbeats 4000000 in
theorem loA_1 (w0 : World) (n : ByteArray) (k : Int) (a : Int) (x : Int) (y : Int) (z : Int) (lo : Int) (hi : Int) (fp : Option Addr) (fl : Nat) (fc : Nat)     (fs : List FrT) (hfr : FrP w0 (.slice fp fl fc) fs) (hfa : (fewB n fs) = false) (w : World) (gl : Gf w0 w)  : Calls Tryz.prog 9 #[.agg #[.string n, .int .i64 k, .int .i64 a, .int .i64 x, .int .i64 y, .int .i64 z, .int .i64 lo, .int .i64 hi, .slice fp fl fc]] w fun r W' => r = .returned (.bool true) ∧ Kb w W' := by
  have kx := Kb.refl w
  have gl0 := Lib.hid gl
  have j1 := (Is.made w #[.string n, .int .i64 k, .int .i64 a, .int .i64 x, .int .i64 y, .int .i64 z, .int .i64 lo, .int .i64 hi, .slice fp fl fc] 28)
  have f2 := j1.c (i := 0) rfl
  have f3 := j1.c (i := 1) rfl
  have f4 := j1.c (i := 2) rfl
  have f5 := j1.c (i := 3) rfl
  have f6 := j1.c (i := 4) rfl
  have f7 := j1.c (i := 5) rfl
  have f8 := j1.c (i := 6) rfl
  have f9 := j1.c (i := 7) rfl
  have f10 := j1.c (i := 8) rfl
  go_enter Tryz.func9, Tryz.ntmps9
  go_wp2_with fail
  clear f2 f3 f4 f5 f6 f7 f8 f9 f10
  have b1 := j1
  replace kx := kx.alloc (.cells #[.string n, .int .i64 k, .int .i64 a, .int .i64 x, .int .i64 y, .int .i64 z, .int .i64 lo, .int .i64 hi, .slice fp fl fc] 28 (0, 0))
  clear j1
  replace gl := gl0.out.kb kx
  (with_reducible refine ((Cf.out (cFew n k a x y z lo hi fp fl fc fs hfr.frs) _ gl)).mono ?_)
  rintro r w1 ⟨rfl, k1⟩
  replace gl := gl.kb k1
  replace b1 := b1.kb k1
  replace kx := kx.trans k1
  have s1 := k1.size
  simp only [World.size_alloc] at s1
  clear k1
  go_wp2_with fail
  (with_reducible refine ((Cf.out (fawakeC) _ gl)).mono ?_)
  rintro r w2 ⟨rfl, k2⟩
  replace gl := gl.kb k2
  replace b1 := b1.kb k2
  replace kx := kx.trans k2
  have s2 := k2.size
  skip
  clear k2
  go_wp2
  go_ret
  exact ⟨rfl, kx⟩
set_option maxRecDepth 100000 in
set_option maxHeartbeats 4000000 in
theorem loB_1 (w0 : World) (n : ByteArray) (k : Int) (a : Int) (x : Int) (y : Int) (z : Int) (lo : Int) (hi : Int) (fp : Option Addr) (fl : Nat) (fc : Nat)     (fs : List FrT) (hfr : FrP w0 (.slice fp fl fc) fs) (hfa : (fewB n fs) = true) (hal : ((alE n k a x y z lo hi fs) != 0) = true) (hnz : n.size ≤ 1000000) (hz2 : ∀ f ∈ fs, f.ds.length ≤ 100000 ∧ ∀ d ∈ f.ds, d.1.size ≤ 1000000) (w : World) (gl : Gf w0 w)  : Calls Tryz.prog 9 #[.agg #[.string n, .int .i64 k, .int .i64 a, .int .i64 x, .int .i64 y, .int .i64 z, .int .i64 lo, .int .i64 hi, .slice fp fl fc]] w fun r W' => r = .returned (.bool true) ∧ Kb w W' := by
  have kx := Kb.refl w
  have gl0 := Lib.hid gl
  have j1 := (Is.made w #[.string n, .int .i64 k, .int .i64 a, .int .i64 x, .int .i64 y, .int .i64 z, .int .i64 lo, .int .i64 hi, .slice fp fl fc] 28)
  have f2 := j1.c (i := 0) rfl
  have f3 := j1.c (i := 1) rfl
  have f4 := j1.c (i := 2) rfl
  have f5 := j1.c (i := 3) rfl
  have f6 := j1.c (i := 4) rfl
  have f7 := j1.c (i := 5) rfl
  have f8 := j1.c (i := 6) rfl
  have f9 := j1.c (i := 7) rfl
  have f10 := j1.c (i := 8) rfl
  go_enter Tryz.func9, Tryz.ntmps9
  go_wp2_with fail
  clear f2 f3 f4 f5 f6 f7 f8 f9 f10
  have b1 := j1
  replace kx := kx.alloc (.cells #[.string n, .int .i64 k, .int .i64 a, .int .i64 x, .int .i64 y, .int .i64 z, .int .i64 lo, .int .i64 hi, .slice fp fl fc] 28 (0, 0))
  clear j1
  replace gl := gl0.out.kb kx
  (with_reducible refine ((Cf.out (cFew n k a x y z lo hi fp fl fc fs hfr.frs) _ gl)).mono ?_)
  rintro r w1 ⟨rfl, k1⟩
  replace gl := gl.kb k1
  replace b1 := b1.kb k1
  replace kx := kx.trans k1
  have s1 := k1.size
  simp only [World.size_alloc] at s1
  clear k1
  have f11 := b1.c (i := 0) rfl
  have f12 := b1.c (i := 1) rfl
  have f13 := b1.c (i := 2) rfl
  have f14 := b1.c (i := 3) rfl
  have f15 := b1.c (i := 4) rfl
  have f16 := b1.c (i := 5) rfl
  have f17 := b1.c (i := 6) rfl
  have f18 := b1.c (i := 7) rfl
  have f19 := b1.c (i := 8) rfl
  go_wp2_with fail
  clear f11 f12 f13 f14 f15 f16 f17 f18 f19
  (with_reducible refine ((Cf.out (rfrAll n k a x y z lo hi fp fl fc fs hnz hfr hz2) _ gl)).mono ?_)
  rintro r w2 ⟨rfl, k2⟩
  replace gl := gl.kb k2
  replace b1 := b1.kb k2
  replace kx := kx.trans k2
  have s2 := k2.size
  skip
  clear k2
  go_wp2_with fail
  (with_reducible refine ((Cf.out (fawakeC) _ gl)).mono ?_)
  rintro r w3 ⟨rfl, k3⟩
  replace gl := gl.kb k3
  replace b1 := b1.kb k3
  replace kx := kx.trans k3
  have s3 := k3.size
  skip
  clear k3
  go_wp2
  go_ret
  exact ⟨rfl, kx⟩
end Go.Proofs.YtlimjohnimgnhaaGreatDoor
