/- Texts Ux, Up1: each says in its own first comment what it proves. -/
import Derived.Test.YtlimjohnimgnhaaGreatDoorM24
import Derived.Sort.KeysCollected
import Derived.Maps.Views
import Derived.Test.YtlimjohnimgnhaaGreatDoorM06
/- Frames: Text. -/
namespace Go.Proofs.YtlimjohnimgnhaaGreatDoor
open Go.RowKit

theorem Bw.new {b : Nat} {w : World} (h : Is w b #[.pointer none, .slice none 0 0] 101) : Bw b b [] w :=
  .inl ⟨Nat.le_refl _, .slice none 0 0, h, ⟨rfl, .inl ⟨rfl, rfl⟩⟩, by simp [Value.ownBlock]⟩
def textV (k : Nat) (d : Bool) (t : Int) (m : Nat) (ds : List DatT) : ByteArray := ⟨(dsL (headL [] k d t m) ds).toArray⟩
theorem ftell {w0 : World} (d : Bool) (B b : Nat) (k : Nat) (t : Int) (m : Nat) (dp : Option Addr) (dl dc : Nat) (ds : List DatT) (w : World) (h : Bw B b [] w) (gl : Gf w0 w) (hB : w0.heap.size ≤ B) (hBw : B ≤ w.heap.size) (hk : k < 9) (hm : m < 3) (ht0 : 0 ≤ t) (ht1 : t ≤ 1000000) (hi : (itV t).size ≤ 20)
    (hd : DatS w0 (.slice dp dl dc) ds) (hdl : dl ≤ 3) (hz : ∀ d ∈ ds, d.1.size ≤ 100 ∧ ∃ j : Nat, j < 3 ∧ d.2 = (j : Int)) :
    Calls Tryz.prog 64 #[.agg #[.int .i64 (k : Int), .bool d, .int .i64 t, .int .i64 (m : Int), .slice dp dl dc], .func (.func 65) #[] #[.pointer (some ⟨b, 0, none⟩)]] w fun r W' => r = .returned (.tuple #[]) ∧ Bw B b (dsL (headL [] k d t m) ds) W' ∧ Bk B b w W' := by
  cases d
  · exact ftell_false B b k t m dp dl dc ds w h gl hB hBw hk hm ht0 ht1 hi hd hdl hz
  · exact ftell_true B b k t m dp dl dc ds w h gl hB hBw hk hm ht0 ht1 hi hd hdl hz
set_option maxRecDepth 100000 in
set_option maxHeartbeats 8000000 in
theorem fTextOk {w0 : World} (d : Bool) (k : Nat) (t : Int) (m : Nat) (dp : Option Addr) (dl dc : Nat) (ds : List DatT) (hk : k < 9) (hm : m < 3) (ht0 : 0 ≤ t) (ht1 : t ≤ 1000000) (hi : (itV t).size ≤ 20)
    (hd : DatS w0 (.slice dp dl dc) ds) (hdl : dl ≤ 3) (hz : ∀ d ∈ ds, d.1.size ≤ 100 ∧ ∃ j : Nat, j < 3 ∧ d.2 = (j : Int))
    (hp : Cf w0 15 #[.agg #[.int .i64 (k : Int), .bool d, .int .i64 t, .int .i64 (m : Int), .slice dp dl dc]] (.int .i64 0)) :
    Cf w0 26 #[.agg #[.int .i64 (k : Int), .bool d, .int .i64 t, .int .i64 (m : Int), .slice dp dl dc]] (.tuple #[.string (textV k d t m ds), .int .i64 0]) := Lib.hid fun w gl => by
  have ka := (Kb.refl w).alloc (.cells #[.int .i64 (k : Int), .bool d, .int .i64 t, .int .i64 (m : Int), .slice dp dl dc] 31 (0, 0))
  have ba := Is.made w #[.int .i64 (k : Int), .bool d, .int .i64 t, .int .i64 (m : Int), .slice dp dl dc] 31
  generalize hWA : w.alloc (.cells #[.int .i64 (k : Int), .bool d, .int .i64 t, .int .i64 (m : Int), .slice dp dl dc] 31 (0, 0)) = wa at *
  have q1 := Lib.hid (hp.out wa (gl.kb ka))
  have HG := Lib.hid gl
  have HD := Lib.hid hd
  have HZ := Lib.hid hz
  have c0 := ba.c (i := 0) rfl
  have c1 := ba.c (i := 1) rfl
  have c2 := ba.c (i := 2) rfl
  have c3 := ba.c (i := 3) rfl
  have c4 := ba.c (i := 4) rfl
  clear hp gl hd hz
  go_enter Tryz.func26, Tryz.ntmps26
  go_wp2_with fail
  clear hWA c0 c1 c2 c3 c4
  refine (q1.out).mono ?_
  rintro r w1 ⟨rfl, k1⟩
  have kb := (Kb.refl w1).alloc (.cells #[.pointer none, .slice none 0 0] 101 (0, 0))
  have bb := Is.made w1 #[.pointer none, .slice none 0 0] 101
  have b1 := (ba.kb k1).kb kb
  have g1 := HG.out.kb ((ka.trans k1).trans kb)
  have s1 := (HG.out.kb (ka.trans k1)).size
  have c0 := b1.c (i := 0) rfl
  have c1 := b1.c (i := 1) rfl
  have c2 := b1.c (i := 2) rfl
  have c3 := b1.c (i := 3) rfl
  have c4 := b1.c (i := 4) rfl
  have HK := Lib.hid ((ka.trans k1).trans kb)
  have q2 := Lib.hid (ftell d w1.heap.size w1.heap.size k t m dp dl dc ds (w1.alloc (.cells #[.pointer none, .slice none 0 0] 101 (0, 0))) (Bw.new bb) g1 s1 (by simp) hk hm ht0 ht1 hi HD.out hdl HZ.out)
  have s2 := (ka.trans k1).size
  clear bb b1 g1 kb q1 k1 ka ba
  go_wp2_with fail
  clear c0 c1 c2 c3 c4
  refine (q2.out).mono ?_
  rintro r w2 ⟨rfl, b2, k2⟩
  have s3 := k2.1.size
  have HK2 := Lib.hid k2
  have q3 := Lib.hid (Tryz.Builder_String_any_f w1.heap.size w1.heap.size (dsL (headL [] k d t m) ds) w2 b2 (by simp at s3; omega))
  clear b2 k2 q2
  go_wp2_with fail
  refine (q3.out).mono ?_
  rintro r w3 ⟨rfl, _, k3⟩
  have HK3 := Lib.hid k3
  clear k3 q3
  go_wp2
  go_ret2
  exact ⟨rfl, Below.trans HK.out (Below.mono (Below.trans HK2.out.1 HK3.out) s2)⟩
end Go.Proofs.YtlimjohnimgnhaaGreatDoor

/- Frames: names in ascending order, each once. -/
namespace Go.Proofs.YtlimjohnimgnhaaGreatDoor
open Go.RowKit

/-- a name joins others that stand in ascending order -/
def insS (s : List UInt8) : List (List UInt8) → List (List UInt8)
  | [] => [s]
  | x :: l => if s ≤ x then (if x = s then x :: l else s :: x :: l) else x :: insS s l
/-- the same as the reference goes: whether it has joined, what stands there, what is left -/
def putR (s : List UInt8) : Bool → List (List UInt8) → List (List UInt8) → List (List UInt8)
  | d, out, [] => if d then out else out ++ [s]
  | d, out, x :: l => putR s (d || decide (s ≤ x)) ((if (!d && decide (s ≤ x)) = true then out ++ [s] else out) ++ (if x = s then [] else [x])) l
/-- in strictly ascending order -/
def Asc (l : List (List UInt8)) : Prop := l.Pairwise fun a b => ¬ b ≤ a
theorem not_le_le {a b : List UInt8} (h : ¬ b ≤ a) : a ≤ b := (List.le_total a b).resolve_right h
theorem putR_done (s : List UInt8) : ∀ (l out : List (List UInt8)), s ∉ l → putR s true out l = out ++ l
  | [], out, _ => by simp [putR]
  | x :: l, out, h => by
    have h1 : ¬ x = s := fun e => h (by simp [e])
    rw [putR, Bool.true_or, putR_done s l _ (fun e => h (by simp [e]))]
    simp [h1]
theorem asc_notmem {x : List UInt8} {l : List (List UInt8)} (h : Asc (x :: l)) : ∀ y ∈ l, ¬ y ≤ x := (List.pairwise_cons.1 h).1
theorem putR_eq (s : List UInt8) : ∀ (l out : List (List UInt8)), Asc l → putR s false out l = out ++ insS s l
  | [], out, _ => rfl
  | x :: l, out, h => by
    have hl : Asc l := (List.pairwise_cons.1 h).2
    have hx := asc_notmem h
    rw [putR, insS]
    by_cases h1 : s ≤ x
    · rw [if_pos h1]
      have hs : s ∉ l := fun e => hx s e h1
      rw [decide_eq_true h1, Bool.false_or, putR_done s l _ hs]
      by_cases h2 : x = s
      · simp [h2]
      · simp [h2]
    · have h2 : ¬ x = s := fun e => h1 (by rw [e]; exact List.le_refl s)
      rw [if_neg h1]
      rw [decide_eq_false h1, Bool.false_or, putR_eq s l _ hl]
      simp [h2]
theorem insS_mem (s y : List UInt8) : ∀ l, y ∈ insS s l ↔ y = s ∨ y ∈ l
  | [] => by simp [insS]
  | x :: l => by
    rw [insS]
    split
    · split
      · rename_i h; subst h; simp
      · simp
    · have := insS_mem s y l
      simp [this, or_left_comm]
theorem insS_asc (s : List UInt8) : ∀ l, Asc l → Asc (insS s l)
  | [], _ => by simp [insS, Asc]
  | x :: l, h => by
    have hl : Asc l := (List.pairwise_cons.1 h).2
    have hx := asc_notmem h
    rw [insS]
    split
    · rename_i h1
      split
      · exact h
      · rename_i h2
        refine List.pairwise_cons.2 ⟨fun y hy hys => ?_, h⟩
        rcases List.mem_cons.1 hy with rfl | hy
        · exact h2 (List.le_antisymm hys h1)
        · exact hx y hy (List.le_trans hys h1)
    · rename_i h1
      refine List.pairwise_cons.2 ⟨fun y hy => ?_, insS_asc s l hl⟩
      rcases (insS_mem s y l).1 hy with rfl | hy
      · exact h1
      · exact hx y hy
/-- names in ascending order, each once -/
def srt (L : List (List UInt8)) : List (List UInt8) := L.foldl (fun a s => insS s a) []
theorem srt_snoc (L : List (List UInt8)) (s : List UInt8) : srt (L ++ [s]) = insS s (srt L) := by simp [srt, List.foldl_append]
theorem fold_asc : ∀ (L a : List (List UInt8)), Asc a → Asc (L.foldl (fun a s => insS s a) a)
  | [], _, h => h
  | s :: L, a, h => fold_asc L (insS s a) (insS_asc s a h)
theorem fold_mem (y : List UInt8) : ∀ (L a : List (List UInt8)), y ∈ L.foldl (fun a s => insS s a) a ↔ y ∈ L ∨ y ∈ a
  | [], a => by simp
  | s :: L, a => by
    rw [List.foldl_cons, fold_mem y L, insS_mem]
    simp [or_assoc, or_left_comm]
theorem srt_asc (L : List (List UInt8)) : Asc (srt L) := fold_asc L [] List.Pairwise.nil
theorem srt_mem (L : List (List UInt8)) (y : List UInt8) : y ∈ srt L ↔ y ∈ L := by
  unfold srt; rw [fold_mem]; simp
theorem asc_ext {a b : List (List UInt8)} (ha : Asc a) (hb : Asc b) (h : ∀ x, x ∈ a ↔ x ∈ b) : a = b := by
  have nd : ∀ {l : List (List UInt8)}, Asc l → l.Nodup := fun h => h.imp fun {x y} hn e => hn (by rw [e]; exact List.le_refl y)
  refine List.Perm.eq_of_pairwise (le := fun a b => a ≤ b) (fun a b _ _ h1 h2 => List.le_antisymm h1 h2) (ha.imp fun h => not_le_le h) (hb.imp fun h => not_le_le h) ((List.perm_ext_iff_of_nodup (nd ha) (nd hb)).2 h)
theorem srt_eq {L M : List (List UInt8)} (h : ∀ x, x ∈ L ↔ x ∈ M) : srt L = srt M :=
  asc_ext (srt_asc L) (srt_asc M) fun x => by rw [srt_mem, srt_mem, h x]
theorem srt_of {ss L : List (List UInt8)} (hn : ss.Nodup) (h : ∀ x, x ∈ ss ↔ x ∈ L) : ss.mergeSort leB = srt L := by
  have tr : ∀ a b c : List UInt8, leB a b = true → leB b c = true → leB a c = true := fun a b c h1 h2 => by simp only [leB, decide_eq_true_eq] at *; exact List.le_trans h1 h2
  have tot : ∀ a b : List UInt8, (leB a b || leB b a) = true := fun a b => by simp only [leB, Bool.or_eq_true, decide_eq_true_eq]; exact List.le_total a b
  have nd : (srt L).Nodup := (srt_asc L).imp fun {x y} hn e => hn (by rw [e]; exact List.le_refl y)
  refine List.Perm.eq_of_pairwise (le := fun a b => leB a b = true) (fun a b _ _ h1 h2 => ?_) (List.pairwise_mergeSort tr tot ss) ((srt_asc L).imp fun h => by simp only [leB, decide_eq_true_eq]; exact not_le_le h) ?_
  · simp only [leB, decide_eq_true_eq] at h1 h2
    exact List.le_antisymm h1 h2
  · exact (List.mergeSort_perm ss leB).trans ((List.perm_ext_iff_of_nodup hn nd).2 fun x => by rw [h x, srt_mem])
/-- the set of names -/
def setN (L : List (List UInt8)) : DataW Unit := Maps.setOf (.lit (.bool true)) (L.map .string)
theorem setN_snoc (L : List (List UInt8)) (s : List UInt8) : setN (L ++ [s]) = (setN L).put (.string s) (.lit (.bool true)) := by
  unfold setN; rw [List.map_append]; exact Maps.setOf_snoc _ _ _
theorem key_str (L : List (List UInt8)) : ∀ x ∈ L.map Lit.string, WideAt.IsKeyLit x := fun x hx => by
  obtain ⟨s, _, rfl⟩ := List.mem_map.1 hx
  first | exact trivial | exact rfl | simp [WideAt.IsKeyLit]
theorem has_setN (L : List (List UInt8)) (s : List UInt8) : Maps.has (setN L) (.string s) = true ↔ s ∈ L := by
  unfold setN
  rw [Maps.has_setOf _ _ _ (key_str L), List.any_eq_true]
  constructor
  · rintro ⟨x, hx, h⟩
    obtain ⟨t, ht, rfl⟩ := List.mem_map.1 hx
    have : t = s := by simpa [Lit.sameKey] using h
    exact this ▸ ht
  · intro h
    exact ⟨.string s, List.mem_map.2 ⟨s, h, rfl⟩, by simp [Lit.sameKey]⟩
theorem ss_srt {P : Program} {k : TypeId} {R : Value → Option (DataW Unit × List MemPlace)} {w : World} {bk n : Nat} {L ss : List (List UInt8)} (hown : w.ownsMap P k R bk n (setN L)) (K : Maps.Keyed P k) (hk : P.underlying k = some .string) (hp : ss.Perm (strKeys (setN L))) : ss.mergeSort leB = srt L := by
  obtain ⟨es, hD, hpw, _⟩ := hown.entries K
  obtain ⟨es', hD', hko⟩ := hown.keysOf
  obtain rfl : es = es' := by rw [hD] at hD'; simpa using hD'
  have nd : (srt L).Nodup := (srt_asc L).imp fun {x y} hn e => hn (by rw [e]; exact List.le_refl y)
  have q : (srt L).Perm (strKeys (setN L)) := by
    have hh := has_setN L
    rw [hD] at hh ⊢
    exact perm_strKeys hpw (fun p hp => by obtain ⟨v, hv⟩ := hko p hp; obtain ⟨x, _, hx, _⟩ := Maps.keyOf_str hk hv; exact ⟨x, hx⟩) nd (fun x => by rw [srt_mem, hh x])
  rw [mergeSort_of_perm (hp.trans q.symm)]
  exact srt_of nd (fun x => srt_mem L x)
theorem put_size : ∀ (L : List (List UInt8)) (m : DataW Unit), Maps.Tidy m → Maps.size ((L.map Lit.string).foldl (fun m x => m.put x (.lit (.bool true))) m) ≤ Maps.size m + L.length
  | [], m, _ => Nat.le_refl _
  | s :: L, m, h => by
    have hk : WideAt.IsKeyLit (.string s) := key_str [s] _ (by simp)
    have h1 := put_size L (m.put (.string s) (.lit (.bool true))) (h.put hk _)
    have h2 : Maps.size (m.put (.string s) (.lit (.bool true))) ≤ Maps.size m + 1 := by
      rw [Maps.size_put h]; split <;> omega
    rw [List.map_cons, List.foldl_cons, List.length_cons]
    omega
theorem setN_size (L : List (List UInt8)) : Maps.size (setN L) ≤ L.length := by
  have := put_size L (.map []) Maps.tidy_empty
  rw [Maps.size_eq, List.length_nil, Nat.zero_add] at this
  exact this
end Go.Proofs.YtlimjohnimgnhaaGreatDoor
