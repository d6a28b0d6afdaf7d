/- Texts Is3, Is4, Is4n, Is5: each says in its own first comment what it proves. -/
import Derived.Test.YtiommpdbbpddpaaGreatM50
import Derived.Test.YtiommpdbbpddpaaGreatM35
import Derived.Laws.StructEq
import Derived.Test.YtiommpdbbpddpaaGreatM39
import Derived.Test.YtiommpdbbpddpaaGreatShelf
import Derived.Shelf.SlSortCmp.NoneTotal
/- Reference of layer 3: slices of spans: set, sets, Has, Same, limited, over their calls. -/
namespace Go.Proofs.YtiommpdbbpddpaaGreat
open Go.RowKit
open Go.Lib (nDigits itoa decDigits)

abbrev Tx := ByteArray × ByteArray
instance : Inhabited Tx := ⟨(⟨#[]⟩, ⟨#[]⟩)⟩
def gL (l : List Tx) (j : Nat) : Tx := l.getD j default
theorem gL_eq {l : List Tx} {j : Nat} (h : j < l.length) : gL l j = l[j] := by unfold gL; rw [List.getD_eq_getElem?_getD, List.getElem?_eq_getElem h]; rfl
/-- a slice of spans -/
def SlT (w : World) (v : Value) (l : List Tx) : Prop := ∃ p c, v = .slice p l.length c ∧ (0 < l.length → ∃ g o, p = some ⟨g, o, none⟩ ∧ g < w.heap.size ∧ Spns w g o l)
theorem Spns.kept {L : List Nat} {w w' : World} {g o : Nat} {l : List Tx} (h : Spns w g o l) (k : Kp L w w') (hg : g ∉ L) (hl : g < w.heap.size) : Spns w' g o l := fun i hi => by
  have e := k.block g hl hg
  obtain ⟨a, b⟩ := h i hi
  exact ⟨by rw [World.cell?_of_block e]; exact a, by rw [World.cell?_of_block e]; exact b⟩
theorem SlT.kp {w w' : World} {v : Value} {l : List Tx} (h : SlT w v l) (k : Kp [] w w') : SlT w' v l := by
  obtain ⟨p, c, rfl, hp⟩ := h
  refine ⟨p, c, rfl, fun h0 => ?_⟩
  obtain ⟨g, o, rfl, hg, hs⟩ := hp h0
  exact ⟨g, o, rfl, Nat.lt_of_lt_of_le hg k.size, hs.kept k (by simp) hg⟩
theorem SlT.nil (w : World) (c : Nat) (p : Option Addr) : SlT w (.slice p 0 c) [] := ⟨p, c, rfl, fun h => by simp at h⟩
/-- the slice opened: its pointer and its cells, in later worlds too -/
theorem SlT.op {w : World} {v : Value} {l : List Tx} (h : SlT w v l) : ∃ p c g o, v = .slice p l.length c ∧ (0 < l.length → p = some ⟨g, o, none⟩) ∧ ∀ j, j < l.length → ∀ W, Kp [] w W → W.cell? ⟨g, o + j * 2, none⟩ = some (.string (gL l j).1) ∧ W.cell? ⟨g, o + j * 2 + 1, none⟩ = some (.string (gL l j).2) := by
  obtain ⟨p, c, rfl, hp⟩ := h
  by_cases h0 : 0 < l.length
  · obtain ⟨g, o, rfl, hg, hs⟩ := hp h0
    refine ⟨_, c, g, o, rfl, fun _ => rfl, fun j hj W k => ?_⟩
    rw [gL_eq hj]
    exact hs.kept k (by simp) hg j hj
  · exact ⟨p, c, 0, 0, rfl, fun h => absurd h h0, fun j hj => by omega⟩
/-- a row of spans of the call's own, as a slice -/
def enS (s : Tx) : List Value := [.string s.1, .string s.2]
theorem enS_len (s : Tx) : (enS s).length = 2 := rfl
theorem enS_one (s : Tx) : ∀ v ∈ enS s, v.oneCell' = true := by
  intro v hv
  unfold enS at hv
  simp only [List.mem_cons, List.not_mem_nil, or_false] at hv
  rcases hv with rfl | rfl <;> rfl
def OwS (w : World) (base : Nat) (v : Value) (l : List Tx) : Prop := w.ownsRow base 26 2 v l.length (l.flatMap enS)
theorem flS_len (l : List Tx) : (l.flatMap enS).length = l.length * 2 := by
  rw [List.length_flatMap]
  simp only [enS_len, List.map_const', List.sum_replicate_nat]
theorem flS_get {l : List Tx} {i : Nat} (h : i < l.length) : (l.flatMap enS)[i * 2]? = some (.string l[i].1) ∧ (l.flatMap enS)[i * 2 + 1]? = some (.string l[i].2) := by
  induction l generalizing i with
  | nil => simp at h
  | cons a l ih =>
    have e : (a :: l).flatMap enS = .string a.1 :: .string a.2 :: l.flatMap enS := rfl
    rw [e]
    cases i with
    | zero => exact ⟨rfl, rfl⟩
    | succ i =>
      have := ih (i := i) (by simpa using h)
      rw [show (i + 1) * 2 = i * 2 + 1 + 1 by omega, show i * 2 + 1 + 1 + 1 = i * 2 + 1 + 1 + 1 from rfl, List.getElem?_cons_succ, List.getElem?_cons_succ, List.getElem?_cons_succ, List.getElem?_cons_succ, List.getElem_cons_succ]
      exact this
theorem OwS.slT {w : World} {base : Nat} {v : Value} {l : List Tx} (h : OwS w base v l) : SlT w v l := by
  have h' := h
  rcases h.2 with ⟨rfl, h0⟩ | ⟨g, cap, cur, rfl, hb, hg, _⟩
  · exact ⟨none, 0, by rw [h0], fun h => by omega⟩
  · refine ⟨_, cap, rfl, fun _ => ⟨g, 0, rfl, (Array.getElem?_eq_some_iff.1 hg).1, fun i hi => ?_⟩⟩
    obtain ⟨a, b⟩ := flS_get hi
    rw [Nat.zero_add]
    exact ⟨(World.ownsRow.cellAt h' _ (by omega)).trans a, (World.ownsRow.cellAt h' _ (by omega)).trans b⟩
theorem OwS.kept {L : List Nat} {w w' : World} {base : Nat} {v : Value} {l : List Tx} (h : OwS w base v l) (k : Kp L w w') (hL : ∀ x ∈ L, x ∉ ownL v) : OwS w' base v l := by
  refine ⟨h.1, ?_⟩
  rcases h.2 with h0 | ⟨g, cap, cur, rfl, hb, hg, hrest⟩
  · exact .inl h0
  · exact .inr ⟨g, cap, cur, rfl, hb, (k.block g (Array.getElem?_eq_some_iff.1 hg).1 (fun hx => hL g hx (by simp [ownL_some]))).trans hg, hrest⟩
theorem OwS.base {w : World} {base : Nat} {v : Value} {l : List Tx} (h : OwS w base v l) : ∀ x ∈ ownL v, base ≤ x ∧ x < w.heap.size := fun x hx => by
  rcases h.2 with ⟨rfl, _⟩ | ⟨g, cap, cur, rfl, hb, hg, _⟩
  · rw [ownL_nil] at hx; cases hx
  · rw [ownL_some, List.mem_singleton] at hx
    subst hx
    exact ⟨hb, (Array.getElem?_eq_some_iff.1 hg).1⟩
theorem OwS.nil (w : World) (base : Nat) : OwS w base (.slice none 0 0) [] := ⟨rfl, .inl ⟨rfl, rfl⟩⟩
/-- equality of spans -/
theorem eqSp (a b c d : ByteArray) (W : World) : (Op.equalIn 10000 26 (.agg #[.string a, .string b]) (.agg #[.string c, .string d])).run Tryz.prog W = .ok (a.toList == c.toList && b.toList == d.toList) W := by
  have u3 := Tryz.underlying24
  have a3 := Tryz.isAgg24
  have z3 := Tryz.sizeOf24
  have hS : Tryz.prog.underlying 26 = some (.struct (Tryz.prog.fieldsOf 26)) := by kernel_rfl
  rw [show (10000 : Nat) = 9999 + 1 from rfl, run_equalIn_agg W 9999 26 _ _ hS (by kernel_rfl)]
  simp only [Program.fieldsOf, Tryz.underlying26]
  go_simp
  by_cases h1 : a.toList = c.toList <;> by_cases h2 : b.toList = d.toList <;> simp [h1, h2]

theorem ba_inj {a b : ByteArray} (h : a.toList = b.toList) : a = b := by
  rw [ByteArray.toList_eq, ByteArray.toList_eq] at h
  obtain ⟨⟨x⟩⟩ := a
  obtain ⟨⟨y⟩⟩ := b
  simp only at h
  rw [h]
theorem tx_beq (s t : Tx) : (s.1.toList == t.1.toList && s.2.toList == t.2.toList) = decide (s = t) := by
  obtain ⟨a, b⟩ := s
  obtain ⟨c, d⟩ := t
  rw [Bool.eq_iff_iff]
  simp only [Bool.and_eq_true, beq_iff_eq, decide_eq_true_eq, Prod.mk.injEq]
  exact ⟨fun h => ⟨ba_inj h.1, ba_inj h.2⟩, fun h => ⟨by rw [h.1], by rw [h.2]⟩⟩
theorem gL_ext {a b : List Tx} (h : a.length = b.length) (hj : ∀ j, j < a.length → gL a j = gL b j) : a = b := by
  refine List.ext_getElem h fun j h1 h2 => ?_
  have := hj j h1
  rwa [gL_eq h1, gL_eq h2] at this
set_option maxRecDepth 100000 in
set_option maxHeartbeats 4000000 in
theorem r3Same (u v : Value) (a b : List Tx) (w : World) (ha : SlT w u a) (hb : SlT w v b) (hn : a.length ≤ 1000000) (hm : b.length ≤ 1000000) :
    Calls Tryz.prog 12 #[u, v] w fun r w' => r = .returned (.bool (decide (a = b))) ∧ Kp [] w w' := by
  obtain ⟨p1, c1, g1, o1, rfl, hp1, hc1⟩ := ha.op
  obtain ⟨p2, c2, g2, o2, rfl, hp2, hc2⟩ := hb.op
  have hn1 : (a.length : Int) ≤ 1000000 := by omega
  have hm1 : (b.length : Int) ≤ 1000000 := by omega
  have hn0 : 0 ≤ (a.length : Int) := by omega
  have hm0 : 0 ≤ (b.length : Int) := by omega
  have kk := Kp.refl [] w
  by_cases hl : a.length = b.length
  · have H1 := Lib.hid (fun (h : ∀ j, j < a.length → gL a j = gL b j) => show decide (a = b) = true from decide_eq_true (gL_ext hl h))
    have H0 := Lib.hid (fun j (h : ¬ gL a j = gL b j) => show decide (a = b) = false from decide_eq_false (fun e => h (by rw [e])))
    rw [← hl] at hc2 hp2 hm1 hm0
    rw [← hl]
    generalize decide (a = b) = R at *
    generalize gL a = G at *
    generalize gL b = H at *
    generalize a.length = n at *
    have HC1 := Lib.hid hc1
    have HC2 := Lib.hid hc2
    have HP1 := Lib.hid hp1
    have HP2 := Lib.hid hp2
    clear hc1 hc2 hp1 hp2 ha hb hn hm hl a b
    go_enter Tryz.func12, Tryz.ntmps12
    go_wp2_with fail
    go_loopg [5] n (fun gk s5 wr => ∃ k : Nat, s5 = .int .i64 k ∧ k + gk = n ∧ Hid (∀ i, i < k → G i = H i) ∧ Kp [] w wr)
    case atStart => exact ⟨0, rfl, by omega, Lib.hid (fun _ h => by omega), kk⟩
    case round =>
      clear kk
      obtain ⟨k, rfl, hk, hz, kk⟩ := hrel
      by_cases hlt : k < n
      · obtain rfl := HP1.out (by omega)
        obtain rfl := HP2.out (by omega)
        obtain ⟨x0, x1⟩ := HC1.out k hlt wr kk
        obtain ⟨y0, y1⟩ := HC2.out k hlt wr kk
        have hlt' : (k : Int) < (n : Int) := by omega
        have z1 : 0 ≤ (k : Int) := by omega
        have Hk := Lib.hid hk; have Hl := Lib.hid hlt
        have hA : ∀ W : World, (Op.equalIn 10000 26 (.agg #[.string (G k).1, .string (G k).2]) (.agg #[.string (H k).1, .string (H k).2])).run Tryz.prog W = .ok (decide (G k = H k)) W := fun W => by rw [eqSp, tx_beq]
        have HX := Lib.hid (H0.out k)
        clear hk hlt HC1 HC2 HP1 HP2 H0
        by_cases he : G k = H k
        · rw [decide_eq_true he] at hA
          have He := Lib.hid he
          clear he HX
          generalize (G k).1 = lo at *
          generalize (G k).2 = hi at *
          generalize (H k).1 = lo2 at *
          generalize (H k).2 = hi2 at *
          go_wp2
          go_quiet (fail)
          go_wp2
          have hk := Hk.out; have hlt := Hl.out
          go_roundg (gk - 1)
          case measure => omega
          case rel => exact ⟨k + 1, by go_num, by omega, Lib.hid (fun i h => if e : i = k then (by rw [e]; exact He.out) else hz.out i (by omega)), kk.drewN _⟩
        · rw [decide_eq_false he] at hA
          have HR := Lib.hid (HX.out he)
          clear he HX
          generalize (G k).1 = lo at *
          generalize (G k).2 = hi at *
          generalize (H k).1 = lo2 at *
          generalize (H k).2 = hi2 at *
          go_wp2
          go_quiet (fail)
          go_wp2
          go_ret
          exact ⟨by rw [HR.out]; rfl, kk.drewN _⟩
      · have hlt' : ¬ (k : Int) < (n : Int) := by omega
        have HR := Lib.hid (H1.out (fun i h => hz.out i (by omega)))
        clear hlt hk
        go_wp2
        go_ret
        exact ⟨by rw [HR.out]; rfl, kk⟩
  · rw [decide_eq_false (fun e => hl (by rw [e]))]
    have hb1 : ((a.length : Int) != (b.length : Int)) = true := by simp; omega
    generalize a.length = n at *
    generalize b.length = m at *
    clear hc1 hc2 hp1 hp2 ha hb hn hm hl
    go_enter Tryz.func12, Tryz.ntmps12
    go_wp2
    go_ret
    exact ⟨rfl, kk⟩





















































































































































































end Go.Proofs.YtiommpdbbpddpaaGreat

/- ordered of package interval: slices.SortFunc at ends of spans, twice. -/
namespace Go.Proofs.YtiommpdbbpddpaaGreat
open Go.RowKit Go.Shelf Go.Sort
open Go.Lib (nDigits itoa decDigits)

theorem re_sortW {w : World} {g blk off m : Nat} {e : Int} {dk : Array Ee} {os : Array Obj} (h : RE w g e) (hne : g ≠ blk) : RE (sortWorldK encE 3 w blk off m dk os) g e := h.kept (kp_sortW encE 3 w blk off m dk os) (by simpa using hne)
theorem kbx_sortW {w : World} {b g blk off m : Nat} {dk : Array Ee} {os : Array Obj} (h : KBx w b g) (hne : b ≠ blk) : KBx (sortWorldK encE 3 w blk off m dk os) b g := h.kept (kp_sortW encE 3 w blk off m dk os) (by simpa using hne)
theorem lays_1 (blk off n : Nat) (w : World) : CmpLays Tryz.prog 62 #[] encE 3 cf1 blk off n w := fun _ _ _ _ x y =>
  (ord_1 (RS x.num) (RS y.num) (secI x.sec) (begI x.beg) (secI y.sec) (begI y.beg) _).mono fun _ _ ⟨h, k⟩ => ⟨h, kp_grow k⟩
theorem lays_2 (blk off n kb g : Nat) (w : World) (hk : KBx w kb g) (hR : RE w g 0) (h1 : kb ≠ blk) (h2 : g ≠ blk) : CmpLays Tryz.prog 66 #[.pointer (some ⟨kb, 0, none⟩)] encE 3 cf2 blk off n w := fun _ _ _ _ x y =>
  (ord_2 (RS x.num) (RS y.num) (cmR x.num y.num) (secI x.sec) (begI x.beg) (secI y.sec) (begI y.beg) kb g _ (kbx_sortW hk h1) (re_sortW hR h2) (Lib.hid fun W hR => by
    have o := kc_order g 0 (RS x.num) (RS y.num) (x.ok.ok (by omega)).size9 (y.ok.ok (by omega)).size9
    obtain ⟨v1, v2⟩ := cmp_v x.ok y.ok (by omega)
    rw [v1, v2, kp_zero] at o
    exact (o.out W hR).mono fun _ _ ⟨a, b, c⟩ => ⟨a, b, kp_same_keeper c hR b⟩)).mono fun _ _ ⟨h, k⟩ => ⟨h, kp_grow k⟩
/-- slices.SortFunc at ends -/
theorem sort_ends (F : Nat) (cb : Array Value) (cf : Ee → Ee → Int) (hO : SWO (ltOf cf)) (blk cap : Nat) (d : Array Ee) (w : World) (eg : ∀ args w, (callFunc F args).run Tryz.prog w = .ok (.enter F args) w)
    (hcmp : CmpLays Tryz.prog F cb encE 3 cf blk 0 d.size w) (hH : HoldsK encE 3 w blk 0 d) (hblk : blk < w.heap.size) (hsz : d.size < 4611686018427387904) :
    Calls Tryz.prog 61 #[.slice (some ⟨blk, 0, none⟩) d.size cap, .func (.func F) #[] cb] w fun e w' => e = .returned (.tuple #[]) ∧ ∃ d' : Array Ee, d'.size = d.size ∧ d'.toList.Perm d.toList ∧ SortedIn (ltOf cf) 0 d'.size d' ∧ HoldsK encE 3 w' blk 0 d' ∧ Kp [blk] w w' := by
  have hcon := AnyQ.slices_SortFunc Tryz.sortEnds 3 Tryz.isAgg94 Tryz.sizeOf94 encE encE_len encE_one cf hO F cb blk 0 cap d w eg hcmp hH hblk hsz
  change Calls Tryz.prog 61 _ _ _ at hcon
  refine hcon.mono ?_
  rintro e w' ⟨he, d', n, os, hp, hs, rfl⟩
  obtain ⟨h1, h2⟩ := perm_all hp
  refine ⟨he, d', h1, h2, by rw [h1]; exact hs, ?_, kp_sortW _ _ _ _ _ _ _ _⟩
  exact holdsK_sortWorldK_c encE 3 w blk 0 d d' n os hH hblk h1
theorem KBx.made (w : World) (g : Nat) : KBx (w.alloc (.cells #[.pointer (some ⟨g, 0, none⟩)] 48 (0, 0))) w.heap.size g := heap_alloc_new w _
set_option maxRecDepth 100000 in
set_option maxHeartbeats 4000000 in
theorem iOrdered (g gl cap : Nat) (d : List Ee) (w : World) (hR : RE w g 0) (hd : HoldsK encE 3 w gl 0 d.toArray) (hgl : gl < w.heap.size) (hne : gl ≠ g) (hn : d.length ≤ 1000000) :
    Calls Tryz.prog 40 #[.pointer (some ⟨g, 0, none⟩), .slice (some ⟨gl, 0, none⟩) d.length cap] w fun r w' => r = .returned (.slice (some ⟨gl, 0, none⟩) d.length cap) ∧ ∃ d' : List Ee, d'.Perm d ∧ (d'.map Ee.en).Pairwise leE ∧ EnL w' gl 0 d' ∧ RE w' g 0 ∧ Kp [gl] w w' := by
  have kb := KBx.made w g
  have k0 : Kp [gl] w (w.alloc (.cells #[.pointer (some ⟨g, 0, none⟩)] 48 (0, 0))) := (Kp.refl _ _).alloc _
  have hR1 := hR.alloc (.cells #[.pointer (some ⟨g, 0, none⟩)] 48 (0, 0))
  have hd1 : HoldsK encE 3 (w.alloc (.cells #[.pointer (some ⟨g, 0, none⟩)] 48 (0, 0))) gl 0 d.toArray := by rw [alloc_eq_grow]; exact holdsK_grow encE 3 w _ gl 0 _ hgl hd
  have s1 := sort_ends 62 #[] cf1 cf1_swo gl cap d.toArray _ (enters_of Tryz.func62 (by kernel_rfl) rfl) (lays_1 gl 0 _ _) hd1 (by simp; omega) (by simp; omega)
  have s2 : Hid (∀ (W : World) (d' : Array Ee), d'.size = d.length → HoldsK encE 3 W gl 0 d' → Kp [gl] (w.alloc (.cells #[.pointer (some ⟨g, 0, none⟩)] 48 (0, 0))) W → Calls Tryz.prog 61 #[.slice (some ⟨gl, 0, none⟩) d.length cap, .func (.func 66) #[] #[.pointer (some ⟨w.heap.size, 0, none⟩)]] W fun e w' => e = .returned (.tuple #[]) ∧ ∃ d2 : Array Ee, d2.size = d.length ∧ d2.toList.Perm d'.toList ∧ SortedIn (ltOf cf2) 0 d2.size d2 ∧ HoldsK encE 3 w' gl 0 d2 ∧ Kp [gl] W w') := Lib.hid fun W d' hs hh k => by
    have hk2 := kb.kept k (by simp; omega)
    have hR2 := hR1.kept k (by simpa using fun e => hne e.symm)
    have := sort_ends 66 #[.pointer (some ⟨w.heap.size, 0, none⟩)] cf2 cf2_swo gl cap d' W (enters_of Tryz.func66 (by kernel_rfl) rfl) (lays_2 gl 0 _ w.heap.size g W hk2 hR2 (by omega) (fun e => hne e.symm)) hh (by have := k.size; simp at this; omega) (by omega)
    rwa [hs] at this
  rw [show d.toArray.size = d.length by simp] at s1
  have S1 := Lib.hid s1
  have E : Hid (∀ (W W' : World) (d1 d2 : Array Ee), d1.toList.Perm d.toArray.toList → d2.toList.Perm d1.toList → SortedIn (ltOf cf2) 0 d2.size d2 → HoldsK encE 3 W' gl 0 d2 → Kp [gl] (w.alloc (.cells #[.pointer (some ⟨g, 0, none⟩)] 48 (0, 0))) W → Kp [gl] W W' → ∃ d' : List Ee, d'.Perm d ∧ (d'.map Ee.en).Pairwise leE ∧ EnL W' gl 0 d' ∧ RE W' g 0 ∧ Kp [gl] w W') := Lib.hid fun W W' d1 d2 p1 p2 hs hh k1 k2 =>
    ⟨d2.toList, by simpa using p2.trans p1, sorted_leE hs, EnL.of hh, (hR1.kept k1 (by simpa using fun e => hne e.symm)).kept k2 (by simpa using fun e => hne e.symm), (k0.trans k1).trans k2⟩
  generalize d.length = n at *
  clear s1 hd1 hR1 k0 kb hd hR
  go_enter Tryz.func40, Tryz.ntmps40
  go_wp2_with fail
  with_reducible refine S1.out.mono ?_
  rintro e w1 ⟨rfl, d1, z1, p1, _, h1, k1⟩
  have q2 := Lib.hid (s2.out w1 d1 z1 h1 k1)
  clear S1 s2
  go_wp2_with fail
  with_reducible refine q2.out.mono ?_
  rintro e w2 ⟨rfl, d2, _, p2, h2, h3, k2⟩
  have HE := Lib.hid (E.out w1 w2 d1 d2 p1 p2 h2 h3 k1 k2)
  clear q2 E p1 p2 h1 h2 h3 k1 k2
  go_wp2
  go_ret
  exact ⟨rfl, HE.out⟩
end Go.Proofs.YtiommpdbbpddpaaGreat

/- ordered of package interval: no ends. -/
namespace Go.Proofs.YtiommpdbbpddpaaGreat
open Go.RowKit Go.Shelf Go.Sort

set_option maxRecDepth 100000 in
set_option maxHeartbeats 4000000 in
theorem iOrdered_none (g : Nat) (p : Option Addr) (cap : Nat) (w : World) :
    Calls Tryz.prog 40 #[.pointer (some ⟨g, 0, none⟩), .slice p 0 cap] w fun r w' => r = .returned (.slice p 0 cap) ∧ Kp [] w w' := by
  have q : Hid (∀ (fv : Value) (W : World), Calls Tryz.prog 61 #[.slice p 0 cap, fv] W fun e w' => e = .returned (.tuple #[]) ∧ w' = W) := Lib.hid fun fv W => AnyF.slices_SortFunc_none Tryz.sortEnds p cap fv W
  have k0 : Kp [] w (w.alloc (.cells #[.pointer (some ⟨g, 0, none⟩)] 48 (0, 0))) := (Kp.refl _ _).alloc _
  go_enter Tryz.func40, Tryz.ntmps40
  go_wp2_with fail
  with_reducible refine (q.out _ _).mono ?_
  rintro e w1 ⟨rfl, rfl⟩
  go_wp2_with fail
  with_reducible refine (q.out _ _).mono ?_
  rintro e w1 ⟨rfl, rfl⟩
  go_wp2
  go_ret
  exact ⟨rfl, k0⟩
end Go.Proofs.YtiommpdbbpddpaaGreat

/- The sweep of package interval: pass. -/
namespace Go.Proofs.YtiommpdbbpddpaaGreat
open Go.RowKit
open Go.Lib (nDigits itoa decDigits)

/-- the block of a sweep: what belongs, the open spans of both sets, what is found -/
def SwB (w : World) (b : Nat) (F : Value) (o0 o1 : Int) (fv : Value) : Prop := w.heap[b]? = some (.cells #[F, .int .i64 o0, .int .i64 o1, fv] 67 (0, 0))
section
variable {w w' : World} {b : Nat} {F fv : Value} {o0 o1 : Int} {L : List Nat}
theorem SwB.lt (h : SwB w b F o0 o1 fv) : b < w.heap.size := (Array.getElem?_eq_some_iff.1 h).1
theorem SwB.c0 (h : SwB w b F o0 o1 fv) : w.cell? ⟨b, 0, none⟩ = some F := by unfold SwB at h; simp [World.cell?, h]
theorem SwB.c1 (h : SwB w b F o0 o1 fv) : w.cell? ⟨b, 1, none⟩ = some (.int .i64 o0) := by unfold SwB at h; simp [World.cell?, h]
theorem SwB.c2 (h : SwB w b F o0 o1 fv) : w.cell? ⟨b, 2, none⟩ = some (.int .i64 o1) := by unfold SwB at h; simp [World.cell?, h]
theorem SwB.c3 (h : SwB w b F o0 o1 fv) : w.cell? ⟨b, 3, none⟩ = some fv := by unfold SwB at h; simp [World.cell?, h]
theorem SwB.f (h : SwB w b F o0 o1 fv) (i : Nat) : w.frozen? ⟨b, i, none⟩ = false := by unfold SwB at h; simp [World.frozen?, h]
theorem SwB.kept (h : SwB w b F o0 o1 fv) (k : Kp L w w') (hb : b ∉ L) : SwB w' b F o0 o1 fv := (k.block b h.lt hb).trans h
theorem SwB.alloc (h : SwB w b F o0 o1 fv) (o : Obj) : SwB (w.alloc o) b F o0 o1 fv := (Below.heap_alloc w o b h.lt).trans h
theorem SwB.drewN (h : SwB w b F o0 o1 fv) (n : Nat) : SwB (w.drewN n) b F o0 o1 fv := h
theorem SwB.set1 (h : SwB w b F o0 o1 fv) (x : Int) : SwB (w.setCell ⟨b, 1, none⟩ (.int .i64 x)) b F x o1 fv := by
  unfold SwB at *; simp [World.setCell, Array.getElem?_modify, h]
theorem SwB.set2 (h : SwB w b F o0 o1 fv) (x : Int) : SwB (w.setCell ⟨b, 2, none⟩ (.int .i64 x)) b F o0 x fv := by
  unfold SwB at *; simp [World.setCell, Array.getElem?_modify, h]
theorem SwB.set3 (h : SwB w b F o0 o1 fv) (x : Value) : SwB (w.setCell ⟨b, 3, none⟩ x) b F o0 o1 x := by
  unfold SwB at *; simp [World.setCell, Array.getElem?_modify, h]
end
theorem begI_beq (a b : Bool) : (begI a == begI b) = decide (a = b) := by cases a <;> cases b <;> decide
theorem begI_in (a : Bool) : -1 ≤ begI a ∧ begI a ≤ 1 := by cases a <;> decide
def gE (d : List Ee) (k : Nat) : Ee := d.getD k default
theorem gE_eq {d : List Ee} {k : Nat} (h : k < d.length) : gE d k = d[k] := by unfold gE; rw [List.getD_eq_getElem?_getD, List.getElem?_eq_getElem h]; rfl
/-- the first k ends -/
def preE (d : List Ee) (k : Nat) : List En := (d.take k).map Ee.en
theorem preE_succ {d : List Ee} {k : Nat} (h : k < d.length) : preE d (k + 1) = preE d k ++ [(gE d k).en] := by
  unfold preE
  rw [List.take_add_one, List.getElem?_eq_getElem h, List.map_append, gE_eq h]
  rfl
theorem bal_le (j : Bool) (l : List En) : -(l.length : Int) ≤ bal j l ∧ bal j l ≤ l.length := by
  unfold bal
  have h1 := List.countP_le_length (p := fun e : En => e.sec == j && e.beg) (l := l)
  have h2 := List.countP_le_length (p := fun e : En => e.sec == j && !e.beg) (l := l)
  omega
theorem preE_len (d : List Ee) (k : Nat) : (preE d k).length ≤ k := by unfold preE; simp; omega
theorem bal_step (d : List Ee) {k : Nat} (h : k < d.length) (j : Bool) : bal j (preE d (k + 1)) = bal j (preE d k) + (if (gE d k).sec = j then begI (gE d k).beg else 0) := by
  rw [preE_succ h, bal_append, bal_one]
  rfl

set_option maxRecDepth 100000 in
set_option maxHeartbeats 4000000 in
theorem sPass (b gl n i0 r0 c0 : Nat) (p0 : Option Addr) (d : List Ee) (F fv : Value) (y : Rat) (hy : Sm 30 y) (st : Bool) (w : World) (hd : EnL w gl 0 d) (hn : d.length = n) (hn9 : n ≤ 1000000) (hg : gl < w.heap.size) (hne : gl ≠ b)
    (hs : SwB w b F (bal false (preE d i0)) (bal true (preE d i0)) fv) (hr : i0 + r0 = n) (hc : r0 ≤ c0) (hp : 0 < r0 → p0 = some ⟨gl, i0 * 3, none⟩) :
    Calls Tryz.prog 59 #[.pointer (some ⟨b, 0, none⟩), .slice p0 r0 c0, .string (RS y), .int .i64 (begI st)] w fun r w' =>
      ∃ j q p c, r = .returned (.slice p q c) ∧ j + q = n ∧ q ≤ c ∧ (0 < q → p = some ⟨gl, j * 3, none⟩) ∧ i0 ≤ j ∧ SwB w' b F (bal false (preE d j)) (bal true (preE d j)) fv ∧ Kp [b] w w' ∧
        (∀ k, k < d.length → i0 ≤ k → k < j → (gE d k).num = y ∧ (gE d k).beg = st) ∧ (j < d.length → ¬ ((gE d j).num = y ∧ (gE d j).beg = st)) := by
  subst hn
  have HC : Hid (∀ k (h : k < d.length) W, Kp [b] w W → W.cell? ⟨gl, k * 3, none⟩ = some (.string (RS (gE d k).num)) ∧ W.cell? ⟨gl, k * 3 + 1, none⟩ = some (.int .i64 (secI (gE d k).sec)) ∧ W.cell? ⟨gl, k * 3 + 2, none⟩ = some (.int .i64 (begI (gE d k).beg))) := Lib.hid fun k h W kk => by
    have := hd.kept kk (by simpa using hne) hg k h
    rw [Nat.zero_add, ← gE_eq h] at this
    exact this
  have HE : Hid (∀ k (h : k < d.length), ((RS (gE d k).num).toList == (RS y).toList) = decide ((gE d k).num = y)) := Lib.hid fun k h => RS_beq ((gE d k).ok.ok (by omega)) (hy.ok (by omega))
  have HB : Hid (∀ k j, k ≤ 1000000 → -1000000 ≤ bal j (preE d k) ∧ bal j (preE d k) ≤ 1000000) := Lib.hid fun k j hk => by
    have := bal_le j (preE d k)
    have := preE_len d k
    omega
  have hn1 : (d.length : Int) ≤ 1000000 := by omega
  have k0 := Kp.refl [b] w
  have hb := hs.lt
  clear hd
  go_enter Tryz.func59, Tryz.ntmps59
  go_wp2_with fail
  go_loopg [1] r0 (fun gk s1 wr => ∃ j p c, s1 = .slice p gk c ∧ j + gk = d.length ∧ gk ≤ c ∧ (0 < gk → p = some ⟨gl, j * 3, none⟩) ∧ i0 ≤ j ∧ Hid (∀ k (h : k < d.length), i0 ≤ k → k < j → (gE d k).num = y ∧ (gE d k).beg = st) ∧ SwB wr b F (bal false (preE d j)) (bal true (preE d j)) fv ∧ Kp [b] w wr)
  case atStart => exact ⟨i0, p0, c0, rfl, hr, hc, hp, Nat.le_refl _, Lib.hid (fun k h h1 h2 => by omega), hs, k0⟩
  case round =>
    clear hs k0 hr hc hp
    obtain ⟨j, p, c, rfl, hj, hc, hp, hij, hall, hs, kk⟩ := hrel
    by_cases h0 : 0 < gk
    · obtain rfl := hp h0
      have hjl : j < d.length := by omega
      obtain ⟨x0, x1, x2⟩ := HC.out j hjl wr kk
      have e1 := HE.out j hjl
      have e2 := begI_beq (gE d j).beg st
      have HJ := Lib.hid hj
      have HI := Lib.hid hij
      have HL := Lib.hid hjl
      have z1 : (0 : Int) < (gk : Int) := by omega
      have z2 : (gk : Int) ≤ 1000000 := by omega
      by_cases hy1 : (gE d j).num = y
      · replace e1 : ((RS (gE d j).num).toList == (RS y).toList) = true := e1.trans (by simp [hy1])
        by_cases hb1 : (gE d j).beg = st
        · replace e2 : (begI (gE d j).beg == begI st) = true := e2.trans (by simp [hb1])
          have HK : Hid (∀ k, k < d.length → i0 ≤ k → k < j + 1 → (gE d k).num = y ∧ (gE d k).beg = st) := Lib.hid fun k h h1 h2 => if e : k = j then (by rw [e]; exact ⟨hy1, hb1⟩) else hall.out k h h1 (by omega)
          have hst0 := bal_step d hjl false
          have hst1 := bal_step d hjl true
          have B0 := HB.out j false (by omega)
          have B1 := HB.out j true (by omega)
          have hbi := begI_in (gE d j).beg
          have cb1 := hs.c1
          have cb2 := hs.c2
          have fb1 := hs.f 1
          have fb2 := hs.f 2
          rw [hb1] at x2 e2 hst0 hst1 hbi
          cases hsec : (gE d j).sec with
          | false =>
            rw [hsec] at x1 hst0 hst1
            simp only [if_true, Bool.false_eq_true, if_false, Int.add_zero] at hst0 hst1
            have hw0 : wrap64 (bal false (preE d j) + begI st) = bal false (preE d j) + begI st := wrap64_in ⟨by omega, by omega⟩
            have hs2 := hs.set1 (bal false (preE d j) + begI st)
            have kk2 : Kp [b] w (wr.setCell ⟨b, 1, none⟩ (.int .i64 (bal false (preE d j) + begI st))) := kk.setCell (p := ⟨b, 1, none⟩) (.inl (by simp)) _
            have HS0 := Lib.hid hst0
            have HS1 := Lib.hid hst1
            clear HC HE HB B0 B1 hbi hy1 hb1 hsec hs
            clear hst0 hst1
            generalize RS (gE d j).num = nm at *
            rw [show secI false = 0 from rfl] at x1
            go_wp2
            go_region
            all_goals go_wp2
            all_goals go_roundg (gk - 1)
            all_goals first
              | (case measure => omega)
              | skip
            case rel => exact ⟨j + 1, _, _, rfl, by have := HJ.out; omega, by omega, fun h => by omega, by have := HI.out; omega, HK.out, by rw [HS0.out, HS1.out]; exact hs2, kk2.drew⟩
            case rel => exact ⟨j + 1, _, _, rfl, by have := HJ.out; omega, by omega, fun h => by simp, by have := HI.out; omega, HK.out, by rw [HS0.out, HS1.out]; exact hs2, kk2.drew⟩
          | true =>
            rw [hsec] at x1 hst0 hst1
            simp only [if_true, reduceCtorEq, if_false, Int.add_zero] at hst0 hst1
            have hw0 : wrap64 (bal true (preE d j) + begI st) = bal true (preE d j) + begI st := wrap64_in ⟨by omega, by omega⟩
            have hs2 := hs.set2 (bal true (preE d j) + begI st)
            have kk2 : Kp [b] w (wr.setCell ⟨b, 2, none⟩ (.int .i64 (bal true (preE d j) + begI st))) := kk.setCell (p := ⟨b, 2, none⟩) (.inl (by simp)) _
            have HS0 := Lib.hid hst0
            have HS1 := Lib.hid hst1
            clear HC HE HB B0 B1 hbi hy1 hb1 hsec hs
            clear hst0 hst1
            generalize RS (gE d j).num = nm at *
            rw [show secI true = 1 from rfl] at x1
            go_wp2
            go_region
            all_goals go_wp2
            all_goals go_roundg (gk - 1)
            all_goals first
              | (case measure => omega)
              | skip
            case rel => exact ⟨j + 1, _, _, rfl, by have := HJ.out; omega, by omega, fun h => by omega, by have := HI.out; omega, HK.out, by rw [HS0.out, HS1.out]; exact hs2, kk2.drew⟩
            case rel => exact ⟨j + 1, _, _, rfl, by have := HJ.out; omega, by omega, fun h => by simp, by have := HI.out; omega, HK.out, by rw [HS0.out, HS1.out]; exact hs2, kk2.drew⟩
        · replace e2 : (begI (gE d j).beg == begI st) = false := e2.trans (by simp [hb1])
          have HM := Lib.hid (fun h : j < d.length => fun e : (gE d j).num = y ∧ (gE d j).beg = st => hb1 e.2)
          clear hy1 hb1 HC HE HB
          generalize begI (gE d j).beg = bg at *
          generalize RS (gE d j).num = nm at *
          go_wp2
          go_ret
          exact ⟨j, gk, _, c, rfl, HJ.out, hc, fun h => rfl, HI.out, hs, kk, hall.out, fun h e f => HM.out h ⟨e, f⟩⟩
      · replace e1 : ((RS (gE d j).num).toList == (RS y).toList) = false := e1.trans (by simp [hy1])
        have HM := Lib.hid (fun h : j < d.length => fun e : (gE d j).num = y ∧ (gE d j).beg = st => hy1 e.1)
        clear hy1 HC HE HB e2
        generalize begI (gE d j).beg = bg at *
        generalize RS (gE d j).num = nm at *
        go_wp2
        go_ret
        exact ⟨j, gk, _, c, rfl, HJ.out, hc, fun h => rfl, HI.out, hs, kk, hall.out, fun h e f => HM.out h ⟨e, f⟩⟩
    · obtain rfl : gk = 0 := by omega
      have hje : ¬ j < d.length := by omega
      go_wp2
      go_ret
      exact ⟨j, 0, p, c, rfl, hj, hc, fun h => by omega, hij, hs, kk, hall.out, fun h => absurd h hje⟩
end Go.Proofs.YtiommpdbbpddpaaGreat
