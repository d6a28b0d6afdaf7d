/- Texts Up1, Ut, Qj1, Ub, Uc: each says in its own first comment what it proves. -/
import Derived.Sort.KeysCollected
import Derived.Maps.Views
import Derived.Test.YtlimjohnimgnhaaGreatDoorM14
import Derived.Test.YtlimjohnimgnhaaGreatDoorM46
import Derived.Test.YtlimjohnimgnhaaGreatDoorM38
import Derived.Test.YtlimjohnimgnhaaGreatDoorM28
/- Frames: names in ascending order, each once. -/
namespace Go.Proofs.YtlimjohnimgnhaaGreatDoor
open Go.RowKit

/-- a name joins others that stand in ascending order -/
def insS (s : List UInt8) : List (List UInt8) → List (List UInt8)
  | [] => [s]
  | x :: l => if s ≤ x then (if x = s then x :: l else s :: x :: l) else x :: insS s l
/-- the same as the reference goes: whether it has joined, what stands there, what is left -/
def putR (s : List UInt8) : Bool → List (List UInt8) → List (List UInt8) → List (List UInt8)
  | d, out, [] => if d then out else out ++ [s]
  | d, out, x :: l => putR s (d || decide (s ≤ x)) ((if (!d && decide (s ≤ x)) = true then out ++ [s] else out) ++ (if x = s then [] else [x])) l
/-- in strictly ascending order -/
def Asc (l : List (List UInt8)) : Prop := l.Pairwise fun a b => ¬ b ≤ a
theorem not_le_le {a b : List UInt8} (h : ¬ b ≤ a) : a ≤ b := (List.le_total a b).resolve_right h
theorem putR_done (s : List UInt8) : ∀ (l out : List (List UInt8)), s ∉ l → putR s true out l = out ++ l
  | [], out, _ => by simp [putR]
  | x :: l, out, h => by
    have h1 : ¬ x = s := fun e => h (by simp [e])
    rw [putR, Bool.true_or, putR_done s l _ (fun e => h (by simp [e]))]
    simp [h1]
theorem asc_notmem {x : List UInt8} {l : List (List UInt8)} (h : Asc (x :: l)) : ∀ y ∈ l, ¬ y ≤ x := (List.pairwise_cons.1 h).1
theorem putR_eq (s : List UInt8) : ∀ (l out : List (List UInt8)), Asc l → putR s false out l = out ++ insS s l
  | [], out, _ => rfl
  | x :: l, out, h => by
    have hl : Asc l := (List.pairwise_cons.1 h).2
    have hx := asc_notmem h
    rw [putR, insS]
    by_cases h1 : s ≤ x
    · rw [if_pos h1]
      have hs : s ∉ l := fun e => hx s e h1
      rw [decide_eq_true h1, Bool.false_or, putR_done s l _ hs]
      by_cases h2 : x = s
      · simp [h2]
      · simp [h2]
    · have h2 : ¬ x = s := fun e => h1 (by rw [e]; exact List.le_refl s)
      rw [if_neg h1]
      rw [decide_eq_false h1, Bool.false_or, putR_eq s l _ hl]
      simp [h2]
theorem insS_mem (s y : List UInt8) : ∀ l, y ∈ insS s l ↔ y = s ∨ y ∈ l
  | [] => by simp [insS]
  | x :: l => by
    rw [insS]
    split
    · split
      · rename_i h; subst h; simp
      · simp
    · have := insS_mem s y l
      simp [this, or_left_comm]
theorem insS_asc (s : List UInt8) : ∀ l, Asc l → Asc (insS s l)
  | [], _ => by simp [insS, Asc]
  | x :: l, h => by
    have hl : Asc l := (List.pairwise_cons.1 h).2
    have hx := asc_notmem h
    rw [insS]
    split
    · rename_i h1
      split
      · exact h
      · rename_i h2
        refine List.pairwise_cons.2 ⟨fun y hy hys => ?_, h⟩
        rcases List.mem_cons.1 hy with rfl | hy
        · exact h2 (List.le_antisymm hys h1)
        · exact hx y hy (List.le_trans hys h1)
    · rename_i h1
      refine List.pairwise_cons.2 ⟨fun y hy => ?_, insS_asc s l hl⟩
      rcases (insS_mem s y l).1 hy with rfl | hy
      · exact h1
      · exact hx y hy
/-- names in ascending order, each once -/
def srt (L : List (List UInt8)) : List (List UInt8) := L.foldl (fun a s => insS s a) []
theorem srt_snoc (L : List (List UInt8)) (s : List UInt8) : srt (L ++ [s]) = insS s (srt L) := by simp [srt, List.foldl_append]
theorem fold_asc : ∀ (L a : List (List UInt8)), Asc a → Asc (L.foldl (fun a s => insS s a) a)
  | [], _, h => h
  | s :: L, a, h => fold_asc L (insS s a) (insS_asc s a h)
theorem fold_mem (y : List UInt8) : ∀ (L a : List (List UInt8)), y ∈ L.foldl (fun a s => insS s a) a ↔ y ∈ L ∨ y ∈ a
  | [], a => by simp
  | s :: L, a => by
    rw [List.foldl_cons, fold_mem y L, insS_mem]
    simp [or_assoc, or_left_comm]
theorem srt_asc (L : List (List UInt8)) : Asc (srt L) := fold_asc L [] List.Pairwise.nil
theorem srt_mem (L : List (List UInt8)) (y : List UInt8) : y ∈ srt L ↔ y ∈ L := by
  unfold srt; rw [fold_mem]; simp
theorem asc_ext {a b : List (List UInt8)} (ha : Asc a) (hb : Asc b) (h : ∀ x, x ∈ a ↔ x ∈ b) : a = b := by
  have nd : ∀ {l : List (List UInt8)}, Asc l → l.Nodup := fun h => h.imp fun {x y} hn e => hn (by rw [e]; exact List.le_refl y)
  refine List.Perm.eq_of_pairwise (le := fun a b => a ≤ b) (fun a b _ _ h1 h2 => List.le_antisymm h1 h2) (ha.imp fun h => not_le_le h) (hb.imp fun h => not_le_le h) ((List.perm_ext_iff_of_nodup (nd ha) (nd hb)).2 h)
theorem srt_eq {L M : List (List UInt8)} (h : ∀ x, x ∈ L ↔ x ∈ M) : srt L = srt M :=
  asc_ext (srt_asc L) (srt_asc M) fun x => by rw [srt_mem, srt_mem, h x]
theorem srt_of {ss L : List (List UInt8)} (hn : ss.Nodup) (h : ∀ x, x ∈ ss ↔ x ∈ L) : ss.mergeSort leB = srt L := by
  have tr : ∀ a b c : List UInt8, leB a b = true → leB b c = true → leB a c = true := fun a b c h1 h2 => by simp only [leB, decide_eq_true_eq] at *; exact List.le_trans h1 h2
  have tot : ∀ a b : List UInt8, (leB a b || leB b a) = true := fun a b => by simp only [leB, Bool.or_eq_true, decide_eq_true_eq]; exact List.le_total a b
  have nd : (srt L).Nodup := (srt_asc L).imp fun {x y} hn e => hn (by rw [e]; exact List.le_refl y)
  refine List.Perm.eq_of_pairwise (le := fun a b => leB a b = true) (fun a b _ _ h1 h2 => ?_) (List.pairwise_mergeSort tr tot ss) ((srt_asc L).imp fun h => by simp only [leB, decide_eq_true_eq]; exact not_le_le h) ?_
  · simp only [leB, decide_eq_true_eq] at h1 h2
    exact List.le_antisymm h1 h2
  · exact (List.mergeSort_perm ss leB).trans ((List.perm_ext_iff_of_nodup hn nd).2 fun x => by rw [h x, srt_mem])
/-- the set of names -/
def setN (L : List (List UInt8)) : DataW Unit := Maps.setOf (.lit (.bool true)) (L.map .string)
theorem setN_snoc (L : List (List UInt8)) (s : List UInt8) : setN (L ++ [s]) = (setN L).put (.string s) (.lit (.bool true)) := by
  unfold setN; rw [List.map_append]; exact Maps.setOf_snoc _ _ _
theorem key_str (L : List (List UInt8)) : ∀ x ∈ L.map Lit.string, WideAt.IsKeyLit x := fun x hx => by
  obtain ⟨s, _, rfl⟩ := List.mem_map.1 hx
  first | exact trivial | exact rfl | simp [WideAt.IsKeyLit]
theorem has_setN (L : List (List UInt8)) (s : List UInt8) : Maps.has (setN L) (.string s) = true ↔ s ∈ L := by
  unfold setN
  rw [Maps.has_setOf _ _ _ (key_str L), List.any_eq_true]
  constructor
  · rintro ⟨x, hx, h⟩
    obtain ⟨t, ht, rfl⟩ := List.mem_map.1 hx
    have : t = s := by simpa [Lit.sameKey] using h
    exact this ▸ ht
  · intro h
    exact ⟨.string s, List.mem_map.2 ⟨s, h, rfl⟩, by simp [Lit.sameKey]⟩
theorem ss_srt {P : Program} {k : TypeId} {R : Value → Option (DataW Unit × List MemPlace)} {w : World} {bk n : Nat} {L ss : List (List UInt8)} (hown : w.ownsMap P k R bk n (setN L)) (K : Maps.Keyed P k) (hk : P.underlying k = some .string) (hp : ss.Perm (strKeys (setN L))) : ss.mergeSort leB = srt L := by
  obtain ⟨es, hD, hpw, _⟩ := hown.entries K
  obtain ⟨es', hD', hko⟩ := hown.keysOf
  obtain rfl : es = es' := by rw [hD] at hD'; simpa using hD'
  have nd : (srt L).Nodup := (srt_asc L).imp fun {x y} hn e => hn (by rw [e]; exact List.le_refl y)
  have q : (srt L).Perm (strKeys (setN L)) := by
    have hh := has_setN L
    rw [hD] at hh ⊢
    exact perm_strKeys hpw (fun p hp => by obtain ⟨v, hv⟩ := hko p hp; obtain ⟨x, _, hx, _⟩ := Maps.keyOf_str hk hv; exact ⟨x, hx⟩) nd (fun x => by rw [srt_mem, hh x])
  rw [mergeSort_of_perm (hp.trans q.symm)]
  exact srt_of nd (fun x => srt_mem L x)
theorem put_size : ∀ (L : List (List UInt8)) (m : DataW Unit), Maps.Tidy m → Maps.size ((L.map Lit.string).foldl (fun m x => m.put x (.lit (.bool true))) m) ≤ Maps.size m + L.length
  | [], m, _ => Nat.le_refl _
  | s :: L, m, h => by
    have hk : WideAt.IsKeyLit (.string s) := key_str [s] _ (by simp)
    have h1 := put_size L (m.put (.string s) (.lit (.bool true))) (h.put hk _)
    have h2 : Maps.size (m.put (.string s) (.lit (.bool true))) ≤ Maps.size m + 1 := by
      rw [Maps.size_put h]; split <;> omega
    rw [List.map_cons, List.foldl_cons, List.length_cons]
    omega
theorem setN_size (L : List (List UInt8)) : Maps.size (setN L) ≤ L.length := by
  have := put_size L (.map []) Maps.tidy_empty
  rw [Maps.size_eq, List.length_nil, Nat.zero_add] at this
  exact this
end Go.Proofs.YtlimjohnimgnhaaGreatDoor

/- Frames: the closure that puts a word into a text. -/
namespace Go.Proofs.YtlimjohnimgnhaaGreatDoor
open Go.RowKit

theorem Bk.gf {B b : Nat} {w0 w w' : World} (h : Bk B b w w') (gl : Gf w0 w) (hB : w0.heap.size ≤ B) : Gf w0 w' := ⟨h.kb gl.at0 hB, gl.oa, gl.ob, gl.oc, gl.on⟩
/-- the mark of a material condition -/
def mkL (m : Nat) : List UInt8 := [[], [40, 77, 41], [40, 76, 41]].getD m []
/-- a text with a further word -/
def putL (l : List UInt8) (s : ByteArray) (m : Nat) : List UInt8 := (if l.length = 0 then l else l ++ [32]) ++ s.data.toList ++ mkL m
set_option maxRecDepth 100000 in
set_option maxHeartbeats 4000000 in
theorem fput1 {w0 : World} (B b : Nat) (m : Nat) (mk : ByteArray) (l : List UInt8) (s : ByteArray) (w : World) (h : Bw B b l w) (gl : Gf w0 w) (hB : w0.heap.size ≤ B) (hBw : B ≤ w.heap.size) (hm : m < 3) (hmk : ∀ W, Gf w0 W → W.cell? ⟨0, m, none⟩ = some (.string mk)) (hmz : mk.size ≤ 3) (hlen : l.length + s.size ≤ 100000) :
    Calls Tryz.prog 65 #[.string s, .int .i64 (m : Int), .pointer (some ⟨b, 0, none⟩)] w fun r W' => r = .returned (.tuple #[]) ∧ Bw B b ((if l.length = 0 then l else l ++ [32]) ++ s.data.toList ++ mk.data.toList) W' ∧ Bk B b w W' := by
  have q0 := Lib.hid (Tryz.Builder_Len_f B b (Lib.byteCells l) w h)
  have hbl := Lib.hid (Lib.byteCells_length l)
  have hm0 : (0 : Int) ≤ (m : Int) := by omega
  have hm3 : (m : Int) < 3 := by omega
  have hsz : (s.data.toList).length = s.size := by rw [Array.length_toList]; rfl
  by_cases h0 : l.length = 0
  · have hd : ¬ (0 : Int) < ((Lib.byteCells l).length : Int) := by rw [hbl.out]; omega
    rw [if_pos h0]
    have q1 := Lib.hid (bString B b l s w h (by omega) hBw)
    have HG := Lib.hid gl
    have HM := Lib.hid hmk
    clear h gl hmk
    go_enter Tryz.func65, Tryz.ntmps65
    go_wp2_with fail
    refine (q0.out).mono ?_
    rintro r w1 ⟨rfl, rfl⟩
    go_wp2_with fail
    refine (q1.out).mono ?_
    rintro r w2 ⟨⟨v, rfl⟩, b1, k1⟩
    have c1 := HM.out w2 (k1.gf HG.out hB)
    have sz1 := k1.1.size
    have q2 := Lib.hid (bString B b (l ++ s.data.toList) mk w2 b1 (by simp only [List.length_append, hsz]; omega) (by omega))
    clear b1
    go_wp2_with fail
    refine (q2.out).mono ?_
    rintro r w3 ⟨⟨v, rfl⟩, b2, k2⟩
    go_wp2
    go_end0
    exact ⟨rfl, b2, k1.trans k2⟩
  · have hd : (0 : Int) < ((Lib.byteCells l).length : Int) := by rw [hbl.out]; omega
    rw [if_neg h0]
    have q1 := Lib.hid (bByte B b l w h (by omega) hBw)
    have HG := Lib.hid gl
    have HM := Lib.hid hmk
    clear h gl hmk
    go_enter Tryz.func65, Tryz.ntmps65
    go_wp2_with fail
    refine (q0.out).mono ?_
    rintro r w1 ⟨rfl, rfl⟩
    go_wp2_with fail
    refine (q1.out).mono ?_
    rintro r w2 ⟨⟨v, rfl⟩, b1, k1⟩
    have sz1 := k1.1.size
    have q2 := Lib.hid (bString B b (l ++ [32]) s w2 b1 (by simp only [List.length_append, List.length_cons, List.length_nil]; omega) (by omega))
    clear b1
    go_wp2_with fail
    refine (q2.out).mono ?_
    rintro r w3 ⟨⟨v, rfl⟩, b2, k2⟩
    have c1 := HM.out w3 ((k1.trans k2).gf HG.out hB)
    have sz2 := k2.1.size
    have q3 := Lib.hid (bString B b (l ++ [32] ++ s.data.toList) mk w3 b2 (by simp only [List.length_append, hsz, List.length_cons, List.length_nil]; omega) (by omega))
    clear b2
    go_wp2_with fail
    refine (q3.out).mono ?_
    rintro r w4 ⟨⟨v, rfl⟩, b3, k3⟩
    go_wp2
    go_end0
    exact ⟨rfl, b3, (k1.trans k2).trans k3⟩
theorem fput {w0 : World} (B b : Nat) (m : Nat) (l : List UInt8) (s : ByteArray) (w : World) (h : Bw B b l w) (gl : Gf w0 w) (hB : w0.heap.size ≤ B) (hBw : B ≤ w.heap.size) (hm : m < 3) (hlen : l.length + s.size ≤ 100000) :
    Calls Tryz.prog 65 #[.string s, .int .i64 (m : Int), .pointer (some ⟨b, 0, none⟩)] w fun r W' => r = .returned (.tuple #[]) ∧ Bw B b (putL l s m) W' ∧ Bk B b w W' := by
  rcases (show m = 0 ∨ m = 1 ∨ m = 2 by omega) with rfl | rfl | rfl
  · exact fput1 B b 0 ⟨#[]⟩ l s w h gl hB hBw hm (fun W g => g.tc.c 0 (by decide)) (by decide) hlen
  · exact fput1 B b 1 ⟨#[40, 77, 41]⟩ l s w h gl hB hBw hm (fun W g => g.tc.c 1 (by decide)) (by decide) hlen
  · exact fput1 B b 2 ⟨#[40, 76, 41]⟩ l s w h gl hB hBw hm (fun W g => g.tc.c 2 (by decide)) (by decide) hlen
end Go.Proofs.YtlimjohnimgnhaaGreatDoor

/- Features: equal datums. -/
namespace Go.Proofs.YtlimjohnimgnhaaGreatDoor
open Go.RowKit

/-- two lists of one length, alike pair by pair -/
def eqL {α : Type} (p : α → α → Bool) : List α → List α → Bool
  | [], [] => true
  | x :: xs, y :: ys => p x y && eqL p xs ys
  | _, _ => false
theorem eqL_len {α : Type} {p : α → α → Bool} : ∀ {l m : List α}, l.length ≠ m.length → eqL p l m = false
  | [], [], h => absurd rfl h
  | [], _ :: _, _ => rfl
  | _ :: _, [], _ => rfl
  | x :: xs, y :: ys, h => by
    unfold eqL
    rw [eqL_len (l := xs) (m := ys) (by simpa using h), Bool.and_false]
theorem eqL_drop {α : Type} {p : α → α → Bool} {l m : List α} {i : Nat} {x y : α} (hx : l[i]? = some x) (hy : m[i]? = some y) : eqL p (l.drop i) (m.drop i) = (p x y && eqL p (l.drop (i + 1)) (m.drop (i + 1))) := by
  obtain ⟨h1, rfl⟩ := List.getElem?_eq_some_iff.1 hx
  obtain ⟨h2, rfl⟩ := List.getElem?_eq_some_iff.1 hy
  rw [List.drop_eq_getElem_cons h1, List.drop_eq_getElem_cons h2, eqL]
theorem eqL_end {α : Type} {p : α → α → Bool} {l m : List α} {i : Nat} (hl : l.length = i) (hm : m.length = i) : eqL p (l.drop i) (m.drop i) = true := by
  rw [List.drop_of_length_le (by omega), List.drop_of_length_le (by omega), eqL]
def datB (d e : DatT) : Bool := (d.1.toList == e.1.toList) && d.2 == e.2
def frB (f g : FrT) : Bool := f.k == g.k && f.d == g.d && f.t == g.t && f.m == g.m && eqL datB f.ds g.ds
theorem DatS.kb {w w' : World} {v : Value} {ds : List DatT} (h : DatS w v ds) (k : Kb w w') : DatS w' v ds := h.kx k.kx
theorem DatS.alloc {w : World} {v : Value} {ds : List DatT} (h : DatS w v ds) (o : Obj) : DatS (w.alloc o) v ds := h.kb ((Kb.refl _).alloc o)
theorem DatS.drew {w : World} {v : Value} {ds : List DatT} (h : DatS w v ds) : DatS w.drew v ds := h.kb (show Kb w w.drew from (Kb.refl _).drew)

























































































































































































































































































































end Go.Proofs.YtlimjohnimgnhaaGreatDoor

/- Frames: whether a name is among datums. -/
namespace Go.Proofs.YtlimjohnimgnhaaGreatDoor
open Go.RowKit

set_option maxRecDepth 100000 in
set_option maxHeartbeats 4000000 in
theorem fnamed1_1 (s : ByteArray) (m : Int) (p : Nat) (nm : ByteArray) (w : World) (b0 : Is w p #[.string nm] 9)  : Calls Tryz.prog 123 #[.agg #[.string s, .int .i64 m], .pointer (some ⟨p, 0, none⟩)] w fun r W' => r = .returned (.bool (s.toList == nm.toList)) ∧ Kb w W' := by
  have kx := Kb.refl w
  have j1 := (Is.made w #[.string s, .int .i64 m] 76)
  have f2 := j1.c (i := 0) rfl
  have j3 := (b0.alloc (.cells #[.string s, .int .i64 m] 76 (0, 0)))
  have f4 := j3.c (i := 0) rfl
  go_enter Tryz.func123, Tryz.ntmps123
  go_wp2
  go_ret
  clear f2 f4
  replace kx := kx.alloc (.cells #[.string s, .int .i64 m] 76 (0, 0))
  exact ⟨rfl, kx⟩
/-- one of the datums has a name -/
def dnB (ds : List DatT) (nm : ByteArray) : Bool := ds.any fun d => d.1.toList == nm.toList
theorem any_drop {α : Type} {p : α → Bool} {l : List α} {i : Nat} {x : α} (h : l[i]? = some x) : (l.drop i).any p = (p x || (l.drop (i + 1)).any p) := by
  obtain ⟨hi, rfl⟩ := List.getElem?_eq_some_iff.1 h
  rw [List.drop_eq_getElem_cons hi, List.any_cons]
set_option maxRecDepth 100000 in
set_option maxHeartbeats 4000000 in
theorem fIndexN (ds : List DatT) (nm : ByteArray) (p : Nat) (dp : Option Addr) (dl dc : Nat) (w : World) (hd : DatS w (.slice dp dl dc) ds) (hp : Is w p #[.string nm] 9) (hn : dl ≤ 100000) : Calls Tryz.prog 141 #[.slice dp dl dc, .func (.func 123) #[] #[.pointer (some ⟨p, 0, none⟩)]] w fun r W' => (∃ i : Int, r = .returned (.int .i64 i) ∧ decide (0 ≤ i) = dnB ds nm) ∧ Kb w W' := by
  have en := (enters_of Tryz.func123 (by kernel_rfl) rfl : ∀ args W, (callFunc 123 args).run Tryz.prog W = .ok (.enter 123 args) W)
  have hlen := hd.len
  have H0 : Hid (dnB ds nm = (ds.drop 0).any fun d => d.1.toList == nm.toList) := rfl
  have HD := Lib.hid hd
  have HE : Hid ((ds.drop dl).any (fun d => d.1.toList == nm.toList) = false) := by show _ = _; rw [List.drop_of_length_le (by omega)]; rfl
  have HL := Lib.hid hlen
  have HP := Lib.hid hp
  clear hd hlen hp
  go_enter Tryz.func141, Tryz.ntmps141
  go_wp2
  go_loopg [8] dl (fun gk s8 wr => ∃ i : Nat, s8 = .int .i64 i ∧ i + gk = dl ∧ Hid (dnB ds nm = (ds.drop i).any fun d => d.1.toList == nm.toList) ∧ Kb w wr)
  case atStart => exact ⟨0, rfl, by omega, H0, Kb.refl _⟩
  case round =>
    obtain ⟨i, rfl, hi, hE, kk⟩ := hrel
    have hi0 : (0 : Int) ≤ (i : Int) := by omega
    by_cases hlt : i < dl
    · obtain ⟨b, off, rfl, hat⟩ := (HD.out.kb kk).at (by omega)
      have hli := HL.out
      obtain ⟨d, hdi⟩ : ∃ d, ds[i]? = some d := ⟨_, List.getElem?_eq_getElem (by omega)⟩
      obtain ⟨y0, y1⟩ := hat i d hdi
      have hA := any_drop (p := fun d => d.1.toList == nm.toList) hdi
      obtain ⟨s, m⟩ := d
      have hq := Lib.hid (fnamed1_1 s m p nm wr (HP.out.kb kk))
      have Hi := Lib.hid hi
      clear hat hdi hli
      rcases Bool.eq_false_or_eq_true (s.toList == nm.toList) with hc | hc
      · have hE2 : Hid (decide ((0 : Int) ≤ (i : Int)) = dnB ds nm) := by show _ = _; rw [hE.out, hA, hc, Bool.true_or]; exact decide_eq_true hi0
        clear hA hE hi
        rw [hc] at hq
        go_wp2_with fail
        (with_reducible refine (hq.out).mono ?_)
        rintro r w1 ⟨rfl, k1⟩
        go_wp2
        go_ret
        exact ⟨⟨_, rfl, hE2.out⟩, kk.trans k1⟩
      · have hE2 : Hid (dnB ds nm = (ds.drop (i + 1)).any fun d => d.1.toList == nm.toList) := by show _ = _; rw [hE.out, hA, hc, Bool.false_or]
        clear hA hE hi
        rw [hc] at hq
        go_wp2_with fail
        (with_reducible refine (hq.out).mono ?_)
        rintro r w1 ⟨rfl, k1⟩
        go_wp2
        have hi := Hi.out
        go_roundg (gk - 1)
        case measure => omega
        case rel => exact ⟨i + 1, by go_num, by omega, hE2, kk.trans k1⟩
    · obtain rfl : i = dl := by omega
      have hE2 : Hid (decide ((0 : Int) ≤ (-1 : Int)) = dnB ds nm) := by show _ = _; rw [hE.out, HE.out]; rfl
      clear hi hE HE
      go_wp2
      go_ret
      exact ⟨⟨_, rfl, hE2.out⟩, kk⟩
set_option maxRecDepth 100000 in
set_option maxHeartbeats 4000000 in
theorem fContN (ds : List DatT) (nm : ByteArray) (p : Nat) (dp : Option Addr) (dl dc : Nat) (w : World) (hd : DatS w (.slice dp dl dc) ds) (hp : Is w p #[.string nm] 9) (hn : dl ≤ 100000) : Calls Tryz.prog 122 #[.slice dp dl dc, .func (.func 123) #[] #[.pointer (some ⟨p, 0, none⟩)]] w fun r W' => r = .returned (.bool (dnB ds nm)) ∧ Kb w W' := by
  have hq := Lib.hid (fIndexN ds nm p dp dl dc w hd hp hn)
  clear hd hp
  go_enter Tryz.func122, Tryz.ntmps122
  go_wp2_with fail
  (with_reducible refine (hq.out).mono ?_)
  rintro r w1 ⟨⟨i, rfl, hi⟩, k1⟩
  have HI := Lib.hid hi
  clear hi hq
  go_wp2
  go_ret
  exact ⟨by rw [← HI.out]; rfl, k1⟩
set_option maxRecDepth 100000 in
set_option maxHeartbeats 4000000 in
theorem fnamed {w0 : World} (ds : List DatT) (nm : ByteArray) (dp : Option Addr) (dl dc : Nat) (hd : DatS w0 (.slice dp dl dc) ds) (hn : dl ≤ 100000) : Cw w0 87 #[.slice dp dl dc, .string nm] (.bool (dnB ds nm)) := Lib.hid fun w g => by
  have kx := (Kb.refl w).alloc (.cells #[.string nm] 9 (0, 0))
  have hq := Lib.hid (fContN ds nm w.heap.size dp dl dc (w.alloc (.cells #[.string nm] 9 (0, 0))) (hd.kb (g.trans kx)) (Is.made w #[.string nm] 9) hn)
  clear hd
  go_enter Tryz.func87, Tryz.ntmps87
  go_wp2_with fail
  (with_reducible refine (hq.out).mono ?_)
  rintro r w1 ⟨rfl, k1⟩
  go_wp2
  go_ret
  exact ⟨rfl, kx.trans k1⟩

end Go.Proofs.YtlimjohnimgnhaaGreatDoor

/- Frames: the errors of datums. -/
namespace Go.Proofs.YtlimjohnimgnhaaGreatDoor
open Go.RowKit

set_option maxRecDepth 100000 in
set_option maxHeartbeats 4000000 in
theorem fmaterial_1 (m : Int)      (h1 : m < 0) (w : World)  : Calls Tryz.prog 49 #[.int .i64 m] w fun r W' => r = .returned (.int .i64 1) ∧ Kb w W' := by
  have kx := Kb.refl w
  go_enter Tryz.func49, Tryz.ntmps49
  go_wp2
  go_ret
  exact ⟨rfl, kx⟩
set_option maxRecDepth 100000 in
set_option maxHeartbeats 4000000 in
theorem fmaterial_2 (m : Int)      (h1 : ¬ m < 0) (h2 : 3 ≤ m) (w : World)  : Calls Tryz.prog 49 #[.int .i64 m] w fun r W' => r = .returned (.int .i64 1) ∧ Kb w W' := by
  have kx := Kb.refl w
  go_enter Tryz.func49, Tryz.ntmps49
  go_wp2
  go_ret
  exact ⟨rfl, kx⟩
set_option maxRecDepth 100000 in
set_option maxHeartbeats 4000000 in
theorem fmaterial_3 (m : Int)      (h1 : ¬ m < 0) (h2 : ¬ 3 ≤ m) (w : World)  : Calls Tryz.prog 49 #[.int .i64 m] w fun r W' => r = .returned (.int .i64 0) ∧ Kb w W' := by
  have kx := Kb.refl w
  go_enter Tryz.func49, Tryz.ntmps49
  go_wp2
  go_ret
  exact ⟨rfl, kx⟩
set_option maxRecDepth 100000 in
theorem fmaterial_any (m : Int)    : Ca 49 #[.int .i64 m] (if m < 0 then (.int .i64 1) else (if 3 ≤ m then (.int .i64 1) else (.int .i64 0))) := Lib.hid fun w => by
  by_cases h1 : m < 0
  · rw [if_pos h1]
    exact fmaterial_1 m h1 w
  · rw [if_neg h1]
    by_cases h2 : 3 ≤ m
    · rw [if_pos h2]
      exact fmaterial_2 m h1 h2 w
    · rw [if_neg h2]
      exact fmaterial_3 m h1 h2 w
/-- the error of a material condition -/
def cmE (m : Int) : Int := fE (decide (m < 0) || decide (3 ≤ m)) 1
theorem fmat (m : Int) : Ca 49 #[.int .i64 m] (.int .i64 (cmE m)) := by
  have q := fmaterial_any m
  have e : (if m < 0 then (Value.int .i64 1) else (if 3 ≤ m then (.int .i64 1) else (.int .i64 0))) = .int .i64 (cmE m) := by
    unfold cmE fE
    by_cases h1 : m < 0
    · simp [h1]
    · by_cases h2 : 3 ≤ m <;> simp [h1, h2]
  rw [e] at q; exact q
/-- the first error of datums: d is one of l, those before it are b -/
def dtE (b : List DatT) (d : DatT) : Int := firstE [firstE [nmE d.1], fE (dnB b d.1) 7, firstE [cmE d.2]]
def dsF (b : List DatT) : List DatT → Int
  | [] => 0
  | d :: l => if dtE b d = 0 then dsF (b ++ [d]) l else dtE b d
def dsE (l : List DatT) : Int := dsF [] l
theorem dsF_drop {l : List DatT} {i : Nat} {d : DatT} (h : l[i]? = some d) : dsF (l.take i) (l.drop i) = if dtE (l.take i) d = 0 then dsF (l.take (i + 1)) (l.drop (i + 1)) else dtE (l.take i) d := by
  obtain ⟨hi, rfl⟩ := List.getElem?_eq_some_iff.1 h
  rw [List.drop_eq_getElem_cons hi, dsF, List.take_append_getElem hi]
theorem DatS.take {w : World} {dp : Option Addr} {dl dc : Nat} {l : List DatT} (h : DatS w (.slice dp dl dc) l) (i : Nat) (hi : i ≤ dl) : DatS w (.slice dp i dc) (l.take i) := by
  have hl := h.len
  obtain ⟨q, cap, h2, h3⟩ := h
  injection h2 with e1 e2 e3
  refine ⟨dp, dc, by simp; omega, fun hp => ?_⟩
  have hp' : 0 < i := by simp at hp; omega
  obtain ⟨b, off, g1, g2, g3, g4⟩ := h3 (by simp; omega)
  refine ⟨b, off, e1.trans g1, g2, g3, fun j hj k hk => ?_⟩
  have hj' : j < i := by simp at hj; omega
  rw [g4 j (by simp; omega) k hk]
  simp [List.getD_eq_getElem?_getD, hj']
theorem DatS.cell {w w1 : World} {b off dl dc : Nat} {l : List DatT} (h : DatS w (.slice (some ⟨b, off, none⟩) dl dc) l) (k : Kb w w1) {i : Nat} {d : DatT} (hd : l[i]? = some d) : w1.cell? ⟨b, off + i * 2, none⟩ = some (.string d.1) ∧ w1.cell? ⟨b, off + i * 2 + 1, none⟩ = some (.int .i64 d.2) := by
  have hl := h.len
  have hi : i < l.length := (List.getElem?_eq_some_iff.1 hd).1
  obtain ⟨b', off', e, hat⟩ := h.at (by omega)
  injection e with e
  injection e with e1 e2
  subst e1 e2
  exact ⟨k.cell (hat i d hd).1, k.cell (hat i d hd).2⟩
theorem Cw.out {w : World} {n : Nat} {args : Array Value} {v : Value} (h : Cw w n args v) (W : World) (k : Kb w W) : Calls Tryz.prog n args W fun r w' => r = .returned v ∧ Kb W w' := h W k
theorem ne_b2 {e : Int} (h : (e != 0) = true) : e ≠ 0 := by simpa using h
end Go.Proofs.YtlimjohnimgnhaaGreatDoor
