/- Texts Is8, Is9, Is10, Is11, Is12: each says in its own first comment what it proves. -/
import Derived.Test.YtiommpdbbpddpaaGreatM41
import Derived.Test.YtiommpdbbpddpaaGreatM40
import Derived.Test.YtiommpdbbpddpaaGreatM35
import Derived.Deep.RegionHeld3
import Derived.Laws.EntriesVeiled
import Derived.Deep.DrawnRows
/- Sets of package interval: ends, keepSet, Result of a slice of spans. -/
namespace Go.Proofs.YtiommpdbbpddpaaGreat
open Go.RowKit
open Go.Lib (nDigits itoa decDigits)

def gI (l : List Iv) (j : Nat) : Iv := l.getD j (0, 0)
theorem gI_eq {l : List Iv} {j : Nat} (h : j < l.length) : gI l j = l[j] := by unfold gI; rw [List.getD_eq_getElem?_getD, List.getElem?_eq_getElem h]; rfl
/-- an end, if its number is short -/
instance (k : Nat) (x : Rat) : Decidable (Sm k x) := inferInstanceAs (Decidable (_ ∧ _))
def mkEe (x : Rat) (s b : Bool) : Ee := if h : Sm 30 x then ⟨x, s, b, h⟩ else default
theorem mkEe_ok {x : Rat} (h : Sm 30 x) (s b : Bool) : mkEe x s b = ⟨x, s, b, h⟩ := dif_pos h
def endsE (L : List Iv) (j : Bool) : List Ee := L.flatMap fun s => [mkEe s.1 j true, mkEe s.2 j false]
theorem endsE_len (L : List Iv) (j : Bool) : (endsE L j).length = L.length + L.length := by
  unfold endsE
  rw [List.length_flatMap]
  simp only [List.length_cons, List.length_nil, List.map_const', List.sum_replicate_nat]
  omega
theorem endsE_en {L : List Iv} (h : SmI L) (j : Bool) : (endsE L j).map Ee.en = ends L j := by
  induction L with
  | nil => rfl
  | cons s L ih =>
    have hs := h s (by simp)
    have e : endsE (s :: L) j = [mkEe s.1 j true, mkEe s.2 j false] ++ endsE L j := rfl
    rw [e, List.map_append, ih (fun t ht => h t (by simp [ht])), ends_cons, mkEe_ok hs.1, mkEe_ok hs.2]
    rfl
theorem endsE_take {L : List Iv} {k : Nat} (h : k < L.length) (j : Bool) : endsE (L.take (k + 1)) j = endsE (L.take k) j ++ [mkEe L[k].1 j true, mkEe L[k].2 j false] := by
  unfold endsE
  rw [List.take_add_one, List.getElem?_eq_getElem h, List.flatMap_append]
  rfl
theorem flE_append (a b : List Ee) : (a ++ b).flatMap encE = a.flatMap encE ++ b.flatMap encE := by rw [List.flatMap_append]
theorem flE_one (l : List Ee) : ∀ v ∈ l.flatMap encE, v.oneCell' = true := fun v hv => by
  obtain ⟨e, _, h⟩ := List.mem_flatMap.1 hv
  exact encE_one e v h
theorem end_info : (Tryz.prog.info? 94).map (fun i => (i.zero, i.size, i.bytes)) = some (some (.agg #[.string ⟨#[]⟩, .int .i64 0, .int .i64 0]), 3, 32) := by kernel_rfl
set_option maxRecDepth 100000 in
set_option maxHeartbeats 4000000 in
theorem iEnds (v : Value) (L : List Iv) (j : Bool) (w : World) (h : SlT w v (txI L)) (hL : SmI L) (hn : L.length ≤ 256) :
    Calls Tryz.prog 41 #[v, .int .i64 (secI j)] w fun r w' => ∃ v', r = .returned v' ∧ w'.ownsRow w.heap.size 94 3 v' (L.length + L.length) ((endsE L j).flatMap encE) ∧ Kp [] w w' := by
  obtain ⟨i0, hi0, hz0, hz1, hz2⟩ := info_parts end_info
  obtain ⟨p, c, g, o, rfl, hp, hc⟩ := h.op
  have HC : Hid (∀ k, k < L.length → ∀ W, Kp [] w W → W.cell? ⟨g, o + k * 2, none⟩ = some (.string (RS (gI L k).1)) ∧ W.cell? ⟨g, o + k * 2 + 1, none⟩ = some (.string (RS (gI L k).2))) := Lib.hid fun k hk W kk => by
    have := hc k (by rw [txI_len]; exact hk) W kk
    rw [gL_eq (by rw [txI_len]; exact hk)] at this
    rw [gI_eq hk]
    simpa [txI] using this
  have HE : Hid (∀ k, k < L.length → (endsE (L.take (k + 1)) j).flatMap encE = (endsE (L.take k) j).flatMap encE ++ [.string (RS (gI L k).1), .int .i64 (secI j), .int .i64 1, .string (RS (gI L k).2), .int .i64 (secI j), .int .i64 (-1)]) := Lib.hid fun k hk => by
    have hs := hL L[k] (List.getElem_mem hk)
    rw [gI_eq hk, endsE_take hk, flE_append, mkEe_ok hs.1, mkEe_ok hs.2]
    rfl
  rw [txI_len] at hp
  have HP := Lib.hid hp
  have hn1 : (L.length : Int) ≤ 256 := by omega
  have hn0 : 0 ≤ (L.length : Int) := by omega
  have k0 := Kp.refl [] w
  have o0 : w.ownsRow w.heap.size 94 3 (.slice none 0 0) (0 + 0) ((endsE (L.take 0) j).flatMap encE) := World.ownsRow_nil _ _ _ _
  rw [txI_len]
  clear h hc hp
  generalize hsj : secI j = sj at *
  generalize hN : L.length = n at *
  go_enter Tryz.func41, Tryz.ntmps41
  go_wp2_with fail
  go_loopg [5, 10] n (fun gk s5 s10 wr => ∃ k : Nat, s10 = .int .i64 k ∧ k + gk = n ∧ wr.ownsRow w.heap.size 94 3 s5 (k + k) ((endsE (L.take k) j).flatMap encE) ∧ Kp [] w wr)
  case atStart => exact ⟨0, rfl, by omega, o0, k0⟩
  case round =>
    clear o0 k0
    obtain ⟨k, rfl, hk, hown, kk⟩ := hrel
    by_cases hlt : k < n
    · obtain rfl := HP.out (by omega)
      obtain ⟨c0, c1⟩ := HC.out k (by omega) wr kk
      have he := HE.out k (by omega)
      have hlt' : (k : Int) < (n : Int) := by omega
      have z1 : 0 ≤ (k : Int) := by omega
      generalize RS (gI L k).1 = lo at *
      generalize RS (gI L k).2 = hi at *
      have s := SpB.made wr lo hi
      have s0 := s.c0
      have s1 := s.c1
      have f0 := s.f 0
      have f1 := s.f 1
      have hownA := hown.alloc (.cells #[.string lo, .string hi] 26 (0, 0))
      have ka := kk.alloc (.cells #[.string lo, .string hi] 26 (0, 0))
      have Hk := Lib.hid hk; have Hl := Lib.hid hlt; have Hn := Lib.hid hN; have He := Lib.hid he
      have hz : w.heap.size ≤ wr.heap.size := kk.size
      have hnk : k ≤ 256 := by omega
      clear hk hlt hN he hown kk HC HE HP s hL hn
      generalize hxs : (endsE (L.take k) j).flatMap encE = xs at *
      go_wp2_with (first | (at_builtin; refine wpList_append_kp rfl _ _ 69 rfl w.heap.size 94 i0 (.agg #[.string ⟨#[]⟩, .int .i64 0, .int .i64 0]) 3 32 Tryz.underlying69 hi0 hz0 hz1 hz2 rfl (by decide) _ (k + k) xs rfl (World.ownsRow.alloc hownA _) ⟨wr.heap.size + 1, 0, none⟩ 2 2 [.string lo, .int .i64 sj, .int .i64 1, .string hi, .int .i64 sj, .int .i64 (-1)] rfl rfl ?c1 ?c2 ?c3 ?c4 ?c5 ?c6 ?_) | fail)
      case c1 => exact World.news_of_block (by rw [show wr.heap.size + 1 = (wr.alloc (.cells #[.string lo, .string hi] 26 (0, 0))).heap.size by simp]; exact heap_alloc_new _ _)
      case c2 => intro u hu; simp at hu; rcases hu with rfl | rfl | rfl | rfl | rfl | rfl <;> rfl
      case c3 => omega
      case c4 => unfold maxLen; omega
      case c5 => omega
      case c6 => simp; omega
      intro g2 cap2 w2 hown2 k2 hg2 hin
      have kk2 : Kp [] w w2 := (ka.alloc _).step k2 (fun x hx => .inr (by
        unfold ownL at hx
        rw [Option.mem_toList] at hx
        exact (hownA.lt x hx).1))
      have hown3 : w2.ownsRow w.heap.size 94 3 (.slice (some ⟨g2, 0, none⟩) (k + k + 2) cap2) ((k + 1) + (k + 1)) ((endsE (L.take (k + 1)) j).flatMap encE) := by
        rw [He.out, show (k + 1) + (k + 1) = k + k + 2 by omega]
        exact hown2
      clear hown2 k2 hin hownA ka s0 s1 f0 f1 c0 c1 hxs
      go_wp2
      have hk := Hk.out; have hlt := Hl.out
      go_roundg (gk - 1)
      case measure => omega
      case rel => exact ⟨k + 1, by go_num, by omega, hown3, kk2⟩
    · obtain rfl : k = n := by omega
      have HO := Lib.hid hown
      clear hown
      go_wp2
      go_ret
      have h2 := HO.out
      rw [List.take_of_length_le (by omega)] at h2
      exact ⟨_, rfl, h2, kk⟩
end Go.Proofs.YtiommpdbbpddpaaGreat

/- Sets of package interval: keepSet, Result of a slice of spans. -/
namespace Go.Proofs.YtiommpdbbpddpaaGreat
open Go.RowKit
open Go.Lib (nDigits itoa decDigits)

/-- the error of a set of texts -/
def setE (l : List Tx) : Int := if 256 < l.length then 5 else keE (gL l) 0 l.length
theorem keE_zero {G : Nat → Tx} : ∀ {n : Nat}, (∀ j, j < n → icE (G j).1 (G j).2 = 0) → keE G 0 n = 0
  | 0, _ => rfl
  | n + 1, h => by
    show kp (keE G 0 n) (icE (G n).1 (G n).2) = 0
    rw [keE_zero (fun j hj => h j (by omega)), h n (by omega)]; rfl
set_option maxRecDepth 100000 in
set_option maxHeartbeats 4000000 in
theorem iKeepSet_many (g n c : Nat) (p : Option Addr) (w : World) (hR : RE w g 0) (hn : 256 < n) (hm : n ≤ 1000000) :
    Calls Tryz.prog 38 #[.pointer (some ⟨g, 0, none⟩), .slice p n c] w fun r w' => r = .returned (.bool false) ∧ RE w' g 5 ∧ Kp [g] w w' := by
  have q := Lib.hid (kKeep g 0 5 w hR)
  have hn' : (256 : Int) < (n : Int) := by omega
  have hm' : (n : Int) ≤ 1000000 := by omega
  rw [kp_zero] at q
  clear hn hm hR
  go_enter Tryz.func38, Tryz.ntmps38
  go_wp2_with fail
  with_reducible refine q.out.mono ?_
  rintro r w1 ⟨rfl, h1, k1⟩
  have c1 := h1.cell
  have H1 := Lib.hid h1
  clear h1 q
  go_wp2
  go_ret
  exact ⟨rfl, H1.out, k1⟩
set_option maxRecDepth 100000 in
set_option maxHeartbeats 4000000 in
theorem iKeepSet_few (g : Nat) (v : Value) (l : List Tx) (w0 w : World) (hl : SlT w0 v l) (hR : RE w g 0) (hg : w0.heap.size ≤ g) (k0 : Kp [] w0 w) (hn : l.length ≤ 256) (hz : ∀ j, (gL l j).1.size ≤ 9223372036854775807 ∧ (gL l j).2.size ≤ 9223372036854775807) :
    Calls Tryz.prog 38 #[.pointer (some ⟨g, 0, none⟩), v] w fun r w' => r = .returned (.bool (decide (keE (gL l) 0 l.length = 0))) ∧ RE w' g (keE (gL l) 0 l.length) ∧ Kp [g] w w' := by
  obtain ⟨p, c, rfl, hp⟩ := hl
  have q : Hid (Calls Tryz.prog 58 #[.pointer (some ⟨g, 0, none⟩), .slice p l.length c] w fun r w' => r = .returned (.tuple #[]) ∧ RE w' g (keE (gL l) 0 l.length) ∧ Kp [g] w w') := by
    by_cases h0 : 0 < l.length
    · obtain ⟨b, o, rfl, hb, hs⟩ := hp h0
      exact Lib.hid (ikeep_n g b o c l.length _ (gL l) 0 w hR (fun _ => ⟨rfl, Nat.lt_of_lt_of_le hb k0.size⟩) (by omega) (by omega) (fun j hj => by rw [gL_eq hj]; exact hs.kept k0 (by simp) hb j hj) hz)
    · exact Lib.hid (ikeep_n g (g + 1) 0 c l.length p (gL l) 0 w hR (fun h => absurd h h0) (by omega) (by omega) (fun j hj => by omega) hz)
  have c0 := hR.cell
  have hn' : ¬ (256 : Int) < (l.length : Int) := by omega
  have hm' : (l.length : Int) ≤ 256 := by omega
  generalize keE (gL l) 0 l.length = E at *
  generalize l.length = n at *
  clear hp hz hn hR
  by_cases hE : E = 0
  · subst hE
    rw [decide_eq_true rfl]
    go_enter Tryz.func38, Tryz.ntmps38
    go_wp2_with fail
    with_reducible refine q.out.mono ?_
    rintro r w1 ⟨rfl, h1, k1⟩
    have c1 := h1.cell
    have H1 := Lib.hid h1
    clear h1 q
    go_wp2
    go_ret
    exact ⟨rfl, H1.out, k1⟩
  · rw [decide_eq_false hE]
    have hb : (E == 0) = false := by simp [hE]
    clear hE
    go_enter Tryz.func38, Tryz.ntmps38
    go_wp2_with fail
    with_reducible refine q.out.mono ?_
    rintro r w1 ⟨rfl, h1, k1⟩
    have c1 := h1.cell
    have H1 := Lib.hid h1
    clear h1 q
    go_wp2
    go_ret
    exact ⟨rfl, H1.out, k1⟩
set_option maxRecDepth 100000 in
set_option maxHeartbeats 1000000 in
theorem kresult_spans (c : Nat) (caps : Array Value) (e : Int) (w : World) (Post : Value → World → Prop) (_hpost : ∀ v W W', Post v W → Kp [] W W' → Post v W') (he : ∀ args w, (callFunc c args).run Tryz.prog w = .ok (.enter c args) w)
    (q : Hid (∀ (W : World) (g : Nat), RE W g 0 → w.heap.size ≤ g → Kp [] w W → Calls Tryz.prog c (#[.pointer (some ⟨g, 0, none⟩)] ++ caps) W fun x w' => ∃ v, x = .returned v ∧ (e = 0 → Post v w') ∧ RE w' g e ∧ Kp [g] W w')) :
    Calls Tryz.prog 36 #[.func (.func c) #[] caps] w fun x w' => ∃ v, x = .returned (.tuple #[v, .int .i64 e]) ∧ (e ≠ 0 → v = .slice none 0 0) ∧ (e = 0 → Post v w') ∧ Kp [] w w' := by
  have h0 : RE (w.alloc (.cells #[.int .i64 0] 75 (0, 0))) w.heap.size 0 := heap_alloc_new w _
  have k0 : Kp [] w (w.alloc (.cells #[.int .i64 0] 75 (0, 0))) := (Kp.refl _ _).alloc _
  have q1 := Lib.hid (q.out _ _ h0 (Nat.le_refl _) k0)
  clear q h0
  by_cases h : e = 0
  · subst h
    go_enter Tryz.func36, Tryz.ntmps36
    go_wp2_with (go_at_fn c; refine q1.out.mono ?_; rintro x w1 ⟨v, rfl, hP, hR, k1⟩; have hc := hR.cell; have kk := kp_new k0 (Nat.le_refl _) k1; have HP := Lib.hid (hP rfl); clear hR k1 hP)
    go_ret2
    exact ⟨v, rfl, fun h => absurd rfl h, fun _ => HP.out, kk⟩
  · have hb : (e != 0) = true := by simp [h]
    have hh := Lib.hid h
    clear h
    go_enter Tryz.func36, Tryz.ntmps36
    go_wp2_with (go_at_fn c; refine q1.out.mono ?_; rintro x w1 ⟨v, rfl, hP, hR, k1⟩; have hc := hR.cell; have kk := kp_new k0 (Nat.le_refl _) k1; have hc2 := (hR.alloc (.cells #[.slice none 0 0] 22 (0, 0))).cell; have kd : Kp [] w (World.drew (w1.alloc (.cells #[.slice none 0 0] 22 (0, 0)))) := (kk.alloc _).drew; clear hR k1 hP)
    go_region
    all_goals go_wp2
    all_goals go_ret2
    all_goals exact ⟨_, rfl, fun _ => rfl, fun h => absurd h hh.out, kd⟩
end Go.Proofs.YtiommpdbbpddpaaGreat

/- Sets of package interval: combined. -/
namespace Go.Proofs.YtiommpdbbpddpaaGreat
open Go.RowKit Go.Sort
open Go.Lib (nDigits itoa decDigits)

/-- a block that holds a slice of spans, a block that holds what belongs -/
def SlBx (w : World) (b : Nat) (v : Value) : Prop := w.heap[b]? = some (.cells #[v] 22 (0, 0))
def FnBx (w : World) (b : Nat) (v : Value) : Prop := w.heap[b]? = some (.cells #[v] 45 (0, 0))
section
variable {w w' : World} {b : Nat} {v : Value} {L : List Nat}
theorem SlBx.lt (h : SlBx w b v) : b < w.heap.size := (Array.getElem?_eq_some_iff.1 h).1
theorem SlBx.c (h : SlBx w b v) : w.cell? ⟨b, 0, none⟩ = some v := by unfold SlBx at h; simp [World.cell?, h]
theorem SlBx.kept (h : SlBx w b v) (k : Kp L w w') (hb : b ∉ L) : SlBx w' b v := (k.block b h.lt hb).trans h
theorem FnBx.lt (h : FnBx w b v) : b < w.heap.size := (Array.getElem?_eq_some_iff.1 h).1
theorem FnBx.c (h : FnBx w b v) : w.cell? ⟨b, 0, none⟩ = some v := by unfold FnBx at h; simp [World.cell?, h]
theorem FnBx.kept (h : FnBx w b v) (k : Kp L w w') (hb : b ∉ L) : FnBx w' b v := (k.block b h.lt hb).trans h
theorem SlBx.drew (h : SlBx w b v) : SlBx w.drew b v := h
theorem SlBx.ne {g : Nat} {e : Int} (h : SlBx w b v) (r : RE w g e) : b ≠ g := fun e1 => by
  unfold SlBx at h
  unfold RE at r
  rw [e1, r] at h
  simp at h
theorem FnBx.ne {g : Nat} {e : Int} (h : FnBx w b v) (r : RE w g e) : b ≠ g := fun e1 => by
  unfold FnBx at h
  unfold RE at r
  rw [e1, r] at h
  simp at h
end
theorem SwB.made (w : World) (F fv : Value) (o0 o1 : Int) : SwB (w.alloc (.cells #[F, .int .i64 o0, .int .i64 o1, fv] 67 (0, 0))) w.heap.size F o0 o1 fv := heap_alloc_new w _
/-- what a combination of right sets is: pieces of a sweep -/
def Swept (bel : Bool → Bool → Bool) (A B : List Iv) (f : List Iv) : Prop := ∃ N D, D.Perm (ends A false ++ ends B true) ∧ AlI bel D D [] N f
def PostC (bel : Bool → Bool → Bool) (A B : List Iv) (v : Value) (W : World) : Prop := ∃ f, SlT W v (txI f) ∧ SmI f ∧ f.length ≤ 256 ∧ Swept bel A B f
theorem PostC.kp {bel : Bool → Bool → Bool} {A B : List Iv} (v : Value) (W W' : World) (h : PostC bel A B v W) (k : Kp [] W W') : PostC bel A B v W' := by
  obtain ⟨f, h1, h2⟩ := h
  exact ⟨f, h1.kp k, h2⟩
/-- ordered, whatever row of the call's own -/
theorem iOrdered_any (g n base b : Nat) (d : List Ee) (v : Value) (w : World) (hR : RE w g 0) (ho : w.ownsRow base 94 3 v n (d.flatMap encE)) (hn : d.length = n) (hb : b < base) (hg : g < base) (hbg : b ≠ g) (hn9 : n ≤ 1000) :
    Calls Tryz.prog 40 #[.pointer (some ⟨g, 0, none⟩), v] w fun r w' => r = .returned v ∧ ∃ d' gl p c, d'.Perm d ∧ (d'.map Ee.en).Pairwise leE ∧ v = .slice p n c ∧ n ≤ c ∧ (0 < n → p = some ⟨gl, 0, none⟩) ∧ EnL w' gl 0 d' ∧ gl < w'.heap.size ∧ gl ≠ b ∧ RE w' g 0 ∧ Kp (ownL v) w w' := by
  by_cases h0 : n = 0
  · subst h0
    obtain rfl : d = [] := List.length_eq_zero_iff.1 hn
    obtain ⟨p, c, rfl⟩ : ∃ p c, v = .slice p 0 c := by
      rcases ho.2 with ⟨rfl, _⟩ | ⟨g, cap, cur, rfl, _⟩
      · exact ⟨_, _, rfl⟩
      · exact ⟨_, _, rfl⟩
    refine (iOrdered_none g p c w).mono ?_
    rintro r w' ⟨h1, k⟩
    exact ⟨h1, [], g, p, c, .nil, .nil, rfl, Nat.zero_le _, fun h => by omega, fun i h => by simp at h, Nat.lt_of_lt_of_le hR.lt k.size, fun e => hbg e.symm, hR.kept k (by simp), k.mono (fun _ h => by cases h)⟩
  · obtain ⟨gl, cap, cur, rfl, hbl, hgl, hnc, _⟩ : ∃ gl cap cur, v = .slice (some ⟨gl, 0, none⟩) n cap ∧ base ≤ gl ∧ gl < w.heap.size ∧ n ≤ cap ∧ True := by
      rcases ho.2 with ⟨_, h⟩ | ⟨g, cap, cur, rfl, h1, h2, h3, _⟩
      · exact absurd h h0
      · exact ⟨g, cap, cur, rfl, h1, (Array.getElem?_eq_some_iff.1 h2).1, h3, trivial⟩
    have := iOrdered g gl cap d w hR (holdsK_of_own ho hn.symm) hgl (by omega) (by omega)
    rw [hn] at this
    refine this.mono ?_
    rintro r w' ⟨h1, d', h2, h3, h4, h5, k⟩
    exact ⟨h1, d', gl, _, cap, h2, h3, rfl, hnc, fun _ => rfl, h4, Nat.lt_of_lt_of_le hgl k.size, by omega, h5, k⟩
theorem kp_own {w a c : World} {b e size n : Nat} {v : Value} {xs : List Value} (h : Kp [] w a) (k : Kp (ownL v) a c) (ho : a.ownsRow (b + 1) e size v n xs) (hs : w.heap.size ≤ b) : Kp [] w c :=
  Kp.step h k (fun x hx => .inr (Nat.le_trans hs (Nat.le_of_lt (own_base ho x hx))))
attribute [local go_sem ↓] Go.wp_at_zero Go.wp_at_succ
set_option maxRecDepth 100000 in
set_option maxHeartbeats 8000000 in
theorem iComb_0 (g ba bb bf c : Nat) (bel : Bool → Bool → Bool) (va vb : Value) (A B : List Iv) (w0 w : World) (hR : RE w g 0) (ha : SlBx w ba va) (hb : SlBx w bb vb) (hf : FnBx w bf (.func (.func c) #[] #[])) (k0 : Kp [] w0 w) (sa : SlT w0 va (txI A)) (sb : SlT w0 vb (txI B)) (_hg0 : w0.heap.size ≤ g) (hA : SmI A) (hB : SmI B) (hn : A.length + B.length ≤ 40)
    (qa : Hid (Calls Tryz.prog 38 #[.pointer (some ⟨g, 0, none⟩), va] w fun r w' => r = .returned (.bool true) ∧ RE w' g 0 ∧ Kp [g] w w')) (qb : Hid (∀ W, RE W g 0 → Kp [] w W → Calls Tryz.prog 38 #[.pointer (some ⟨g, 0, none⟩), vb] W fun r w' => r = .returned (.bool true) ∧ RE w' g 0 ∧ Kp [g] W w')) (he : ∀ args w, (callFunc c args).run Tryz.prog w = .ok (.enter c args) w) (qf : Bel c bel) :
    Calls Tryz.prog 37 #[.pointer (some ⟨g, 0, none⟩), .pointer (some ⟨ba, 0, none⟩), .pointer (some ⟨bb, 0, none⟩), .pointer (some ⟨bf, 0, none⟩)] w fun x w' => ∃ v, x = .returned v ∧ PostC bel A B v w' ∧ RE w' g 0 ∧ Kp [g] w w' := by
  obtain ⟨i0, hi0, hz0, hz1, hz2⟩ := info_parts end_info
  have q := Lib.hid qa.out
  have a0 := ha.c
  have hag := ha.ne hR
  have hbg := hb.ne hR
  have hfg := hf.ne hR
  have HR := Lib.hid hR
  have hgl := hR.lt
  clear qa hR
  go_enter Tryz.func37, Tryz.ntmps37
  go_wp2_with fail
  with_reducible refine q.out.mono ?_
  rintro r w1 ⟨rfl, h1, k1⟩
  have b0 := (hb.kept k1 (by simpa using hbg)).c
  have kk1 := kp_same_keeper k1 HR.out h1
  have q2 := Lib.hid (qb.out w1 h1 kk1)
  have H1 := Lib.hid h1
  clear h1 q a0 qb HR k1
  go_wp2_with fail
  with_reducible refine q2.out.mono ?_
  rintro r w2 ⟨rfl, h2, k2⟩
  have kk2 := kk1.trans (kp_same_keeper k2 H1.out h2)
  have f0 := (hf.kept kk2 (by simp)).c
  have H2 := Lib.hid h2
  have haw := ha.kept kk2 (by simp)
  have hbw := hb.kept kk2 (by simp)
  have hal := haw.lt
  have hbl := hbw.lt
  have hgl2 := h2.lt
  have sw4 := SwB.made w2 (.func (.func c) #[] #[]) (.slice none 0 0) 0 0
  have hR4 := h2.alloc (.cells #[.func (.func c) #[] #[], .int .i64 0, .int .i64 0, .slice none 0 0] 67 (0, 0))
  have kx : Kp [] w2 (w2.alloc (.cells #[.func (.func c) #[] #[], .int .i64 0, .int .i64 0, .slice none 0 0] 67 (0, 0))) := (Kp.refl _ _).alloc _
  have kk4 := kk2.alloc (.cells #[.func (.func c) #[] #[], .int .i64 0, .int .i64 0, .slice none 0 0] 67 (0, 0))
  have ha4 := haw.kept kx (by simp)
  have hb4 := hbw.kept kx (by simp)
  have hz4 : (w2.alloc (.cells #[.func (.func c) #[] #[], .int .i64 0, .int .i64 0, .slice none 0 0] 67 (0, 0))).heap.size = w2.heap.size + 1 := by simp
  have hsz2 : w.heap.size ≤ w2.heap.size := kk2.size
  clear h2 q2 b0 k2 kk1 H1 haw hbw kx
  go_wp2_with fail
  generalize hW4 : w2.alloc (.cells #[.func (.func c) #[] #[], .int .i64 0, .int .i64 0, .slice none 0 0] 67 (0, 0)) = w4 at *
  generalize hbq : w2.heap.size = b at *
  clear hW4 f0 kk2 ha hb hf H2
  have qea : Hid (∀ W, Kp [] w W → Calls Tryz.prog 41 #[va, .int .i64 0] W fun r w' => ∃ v', r = .returned v' ∧ w'.ownsRow W.heap.size 94 3 v' (A.length + A.length) ((endsE A false).flatMap encE) ∧ Kp [] W w') := Lib.hid fun W k => iEnds va A false W (sa.kp (k0.trans k)) hA (by omega)
  have qeb : Hid (∀ W, Kp [] w W → Calls Tryz.prog 41 #[vb, .int .i64 1] W fun r w' => ∃ p c', r = .returned (.slice p (B.length + B.length) c') ∧ RdC w' p (B.length + B.length) 3 ((endsE B true).flatMap encE) ∧ Kp [] W w') := Lib.hid fun W k => by
    refine (iEnds vb B true W (sb.kp (k0.trans k)) hB (by omega)).mono ?_
    rintro r w' ⟨v', h1, h2, h3⟩
    obtain ⟨p, c', rfl, h4⟩ := RdC.own h2
    exact ⟨p, c', h1, h4, h3⟩
  have qor : Hid (∀ (v : Value) (W : World), RE W g 0 → W.ownsRow (b + 1) 94 3 v (A.length + A.length + (B.length + B.length)) ((endsE A false).flatMap encE ++ (endsE B true).flatMap encE) → Calls Tryz.prog 40 #[.pointer (some ⟨g, 0, none⟩), v] W fun r w' => r = .returned v ∧ ∃ d' gl p c, d'.Perm (endsE A false ++ endsE B true) ∧ (d'.map Ee.en).Pairwise leE ∧ v = .slice p (A.length + A.length + (B.length + B.length)) c ∧ A.length + A.length + (B.length + B.length) ≤ c ∧ (0 < A.length + A.length + (B.length + B.length) → p = some ⟨gl, 0, none⟩) ∧ EnL w' gl 0 d' ∧ gl < w'.heap.size ∧ gl ≠ b ∧ RE w' g 0 ∧ Kp (ownL v) W w') := Lib.hid fun v W hR ho =>
    iOrdered_any g _ (b + 1) b (endsE A false ++ endsE B true) v W hR (by rw [flE_append]; exact ho) (by rw [List.length_append, endsE_len, endsE_len]) (by omega) (by omega) (by omega) (by omega)
  have qal : Hid (∀ (v p : _) (gl c' : Nat) (d : List Ee) (W : World), d.Perm (endsE A false ++ endsE B true) → (d.map Ee.en).Pairwise leE → v = .slice p (A.length + A.length + (B.length + B.length)) c' → A.length + A.length + (B.length + B.length) ≤ c' → (0 < A.length + A.length + (B.length + B.length) → p = some ⟨gl, 0, none⟩) → EnL W gl 0 d → gl < W.heap.size → gl ≠ b → SwB W b (.func (.func c) #[] #[]) 0 0 (.slice none 0 0) →
      Calls Tryz.prog 39 #[.pointer (some ⟨b, 0, none⟩), v] W fun r w' => r = .returned (.tuple #[]) ∧ ∃ (f : List Iv) (p3 : Option Addr) (c3 : Nat) (o0 o1 : Int), SwB w' b (.func (.func c) #[] #[]) o0 o1 (.slice p3 f.length c3) ∧ SlT w' (.slice p3 f.length c3) (txI f) ∧ SmI f ∧ f.length ≤ 200 ∧ Swept bel A B f ∧ Kp [b] W w') := Lib.hid fun v p gl c' d W hp hs hv hc hpp hE hgl hne hsw => by
    subst hv
    have hlen : d.length = A.length + A.length + (B.length + B.length) := by rw [hp.length_eq, List.length_append, endsE_len, endsE_len]
    refine (sAlong b c gl c' _ bel d p W hE hgl hne hsw hlen (by omega) hs he qf hpp hc).mono ?_
    rintro r w' ⟨h1, fv, f, N, o0, o1, h2, h3, h4, h5, h6, h7⟩
    obtain ⟨p3, c3, e3, h8⟩ := h3.slT
    rw [txI_len] at e3
    subst e3
    refine ⟨h1, f, p3, c3, o0, o1, h2, ⟨p3, c3, by rw [txI_len], h8⟩, h4, by omega, ⟨N, _, ?_, h6⟩, h7⟩
    have := hp.map Ee.en
    rwa [List.map_append, endsE_en hA, endsE_en hB] at this
  have hones : Hid (∀ v ∈ (endsE B true).flatMap encE, v.oneCell' = true) := Lib.hid (flE_one _)
  have hna : A.length + A.length + (B.length + B.length) ≤ 80 := by omega
  generalize A.length + A.length = nA at *
  generalize B.length + B.length = nB at *
  generalize (endsE A false).flatMap encE = xA at *
  generalize (endsE B true).flatMap encE = xB at *
  clear sa sb hA hB hn k0 qf
  go_region_held3 (fun w' => w'.cell? ⟨ba, 0, none⟩ = some va ∧ w'.cell? ⟨bb, 0, none⟩ = some vb)
    (first
      | exact ⟨a9.c, b9.c⟩
      | exact ⟨a8.c, b8.c⟩
      | exact ⟨a7.c, b7.c⟩
      | exact ⟨a6.c, b6.c⟩
      | exact ⟨a5.c, b5.c⟩
      | exact ⟨ha4.c, hb4.c⟩
      | go_keep)
    (first
      | (go_at_call 41; with_reducible refine (qea.out _ (Kp.drew kk4)).mono ?_; rintro r w5 ⟨v5, rfl, ho5, k5⟩; have a5 := SlBx.kept (SlBx.drew ha4) k5 (by simp); have b5 := SlBx.kept (SlBx.drew hb4) k5 (by simp); have kk5 := Kp.trans (Kp.drew kk4) k5; have e5 := RE.kept (RE.drew hR4) k5 (by simp); have s5 := SwB.kept (SwB.drew sw4) k5 (by simp); have z5 := k5.size)
      | (go_at_call 41; with_reducible refine (qeb.out _ kk5).mono ?_; rintro r w6 ⟨pB, cB, rfl, rB, k6⟩; have a6 := SlBx.kept a5 k6 (by simp); have b6 := SlBx.kept b5 k6 (by simp); have kk6 := Kp.trans kk5 k6; have e6 := RE.kept e5 k6 (by simp); have s6 := SwB.kept s5 k6 (by simp))
      | (go_at_call 40; with_reducible refine (qor.out _ _ e7 ho7).mono ?_; rintro r w8 ⟨rfl, d8, gl8, p8, c8, h81, h82, h83, h84, h85, h86, h87, h88, e8, k8⟩; have f8 : ∀ x, x < b + 1 → x ∉ ownL v7 := fun x hx => own_far ho7 hx; have a8 := SlBx.kept a7 k8 (f8 _ (by omega)); have b8 := SlBx.kept b7 k8 (f8 _ (by omega)); have s8 := SwB.kept s7 k8 (f8 _ (by omega)); have kk8 := kp_own kk7 k8 ho7 hsz2)
      | (go_at_call 39; with_reducible refine (qal.out _ _ _ _ _ _ h81 h82 rfl h84 h85 h86 h87 h88 s8).mono ?_; rintro r w9 ⟨rfl, f9, p9, c9, o90, o91, s9, t9, m9, l9, y9, k9⟩; have a9 := SlBx.kept a8 k9 (by simp; omega); have b9 := SlBx.kept b8 k9 (by simp; omega); have e9 := RE.kept e8 k9 (by simp; omega); have kk9 := Kp.step kk8 k9 (fun x hx => .inr (by rw [List.mem_singleton] at hx; omega)))
      | (refine step_append_kpa (by rfl) _ _ 69 (by rfl) (b + 1) 94 i0 (.agg #[.string ⟨#[]⟩, .int .i64 0, .int .i64 0]) 3 32 Tryz.underlying69 hi0 hz0 hz1 hz2 rfl (by decide) v5 nA xA (by rfl) (own_kept (own_mono ho5 (Nat.le_of_eq hz4.symm)) k6 (fun _ h => by cases h)) pB nB cB xB (by rfl) rB hones.out (by unfold maxLen; omega) (by omega) (by have := k6.size; have := k5.size; have e : (World.drew w4).heap.size = b + 1 := hz4; omega) ?_; intro v7 w7 ho7 k7 hin7; have f7 : ∀ x, x < b + 1 → x ∉ ownL v5 := fun x hx => own_far (own_mono ho5 (Nat.le_of_eq hz4.symm)) hx; have a7 := SlBx.kept a6 k7 (f7 _ (by omega)); have b7 := SlBx.kept b6 k7 (f7 _ (by omega)); have e7 := RE.kept e6 k7 (f7 _ (by omega)); have s7 := SwB.kept s6 k7 (f7 _ (by omega)); have kk7 := Kp.step kk6 k7 (fun x hx => .inr (Nat.le_trans hsz2 (Nat.le_of_lt (own_base (own_mono ho5 (Nat.le_of_eq hz4.symm)) x hx))))))
  have kg : Kp [g] w w9 := kk9.mono (fun _ h => by cases h)
  have HP : Hid (PostC bel A B (.slice p9 f9.length c9) w9) := Lib.hid ⟨f9, t9, m9, by omega, y9⟩
  have HR9 := Lib.hid e9
  have c39 := s9.c3
  have hl1 : ¬ (256 : Int) < (f9.length : Int) := by omega
  have hl2 : (f9.length : Int) ≤ 200 := by omega
  generalize f9.length = nf at *
  clear k5 k6 k7 k8 k9 kk4 kk5 kk6 kk7 kk8 kk9 a5 a6 a7 a8 a9 b5 b6 b7 b8 b9 e5 e6 e7 e8 e9 s5 s6 s7 s8 s9 t9 m9 y9 l9 h81 h82 h83 h84 h85 h86 h87 h88 ho5 ho7 rB hin7 f7 f8 z5 qea qeb qor qal ha4 hb4 hR4 sw4
  go_wp2
  go_ret
  exact ⟨_, rfl, HP.out, HR9.out, kg⟩
end Go.Proofs.YtiommpdbbpddpaaGreat

/- Sets of package interval: Normal, Union, Intersection, Difference. -/
namespace Go.Proofs.YtiommpdbbpddpaaGreat
open Go.RowKit
open Go.Lib (nDigits itoa decDigits)

/-- few spans of texts that are not too long, or too many -/
def OkL (l : List Tx) : Prop := (256 < l.length ∧ l.length ≤ 1000000) ∨ (l.length ≤ 256 ∧ ∀ s ∈ l, s.1.size ≤ 9223372036854775807 ∧ s.2.size ≤ 9223372036854775807)
theorem OkL.nil : OkL [] := .inr ⟨by simp, fun s h => by simp at h⟩
theorem kSet_any {l : List Tx} (hl : OkL l) (v : Value) (g : Nat) (w0 w : World) (hs : SlT w0 v l) (hR : RE w g 0) (hg : w0.heap.size ≤ g) (k : Kp [] w0 w) :
    Calls Tryz.prog 38 #[.pointer (some ⟨g, 0, none⟩), v] w fun r w' => r = .returned (.bool (decide (setE l = 0))) ∧ RE w' g (setE l) ∧ Kp [g] w w' := by
  unfold setE
  rcases hl with ⟨h1, h2⟩ | ⟨h1, h2⟩
  · obtain ⟨p, c, rfl, _⟩ := hs
    rw [if_pos h1, decide_eq_false (by omega)]
    exact iKeepSet_many g _ c p w hR h1 h2
  · rw [if_neg (by omega)]
    refine iKeepSet_few g v l w0 w hs hR hg k h1 fun j => ?_
    by_cases hj : j < l.length
    · rw [gL_eq hj]; exact h2 _ (List.getElem_mem hj)
    · unfold gL
      rw [List.getD_eq_getElem?_getD, List.getElem?_eq_none (by omega)]
      exact ⟨by decide, by decide⟩
theorem SlBx.made (w : World) (v : Value) : SlBx (w.alloc (.cells #[v] 22 (0, 0))) w.heap.size v := heap_alloc_new w _
theorem FnBx.made (w : World) (v : Value) : FnBx (w.alloc (.cells #[v] 45 (0, 0))) w.heap.size v := heap_alloc_new w _
set_option maxRecDepth 100000 in
set_option maxHeartbeats 4000000 in
theorem iCombined (p1 p2 : Option Addr) (n1 c1 n2 c2 c : Nat) (E : Int) (w : World) (Post : Value → World → Prop) (hpost : ∀ v W W', Post v W → Kp [] W W' → Post v W')
    (q : ∀ (W : World) (g ba bb bf : Nat), RE W g 0 → w.heap.size ≤ g → Kp [] w W → SlBx W ba (.slice p1 n1 c1) → SlBx W bb (.slice p2 n2 c2) → FnBx W bf (.func (.func c) #[] #[]) → Calls Tryz.prog 37 #[.pointer (some ⟨g, 0, none⟩), .pointer (some ⟨ba, 0, none⟩), .pointer (some ⟨bb, 0, none⟩), .pointer (some ⟨bf, 0, none⟩)] W fun x w' => ∃ v, x = .returned v ∧ (E = 0 → Post v w') ∧ RE w' g E ∧ Kp [g] W w') :
    Calls Tryz.prog 19 #[.slice p1 n1 c1, .slice p2 n2 c2, .func (.func c) #[] #[]] w fun x w' => ∃ v, x = .returned (.tuple #[v, .int .i64 E]) ∧ (E ≠ 0 → v = .slice none 0 0) ∧ (E = 0 → Post v w') ∧ Kp [] w w' := by
  have sa := ((SlBx.made w (.slice p1 n1 c1)).kept ((Kp.refl [] _).alloc (.cells #[.slice p2 n2 c2] 22 (0, 0))) (by simp)).kept ((Kp.refl [] _).alloc (.cells #[.func (.func c) #[] #[]] 45 (0, 0))) (by simp)
  have sb := (SlBx.made (w.alloc (.cells #[.slice p1 n1 c1] 22 (0, 0))) (.slice p2 n2 c2)).kept ((Kp.refl [] _).alloc (.cells #[.func (.func c) #[] #[]] 45 (0, 0))) (by simp)
  have sf := FnBx.made ((w.alloc (.cells #[.slice p1 n1 c1] 22 (0, 0))).alloc (.cells #[.slice p2 n2 c2] 22 (0, 0))) (.func (.func c) #[] #[])
  simp only [World.size_alloc] at sb sf
  have kk : Kp [] w (((w.alloc (.cells #[.slice p1 n1 c1] 22 (0, 0))).alloc (.cells #[.slice p2 n2 c2] 22 (0, 0))).alloc (.cells #[.func (.func c) #[] #[]] 45 (0, 0))) := (((Kp.refl _ _).alloc _).alloc _).alloc _
  have q1 := Lib.hid (kresult_spans 37 #[.pointer (some ⟨w.heap.size, 0, none⟩), .pointer (some ⟨w.heap.size + 1, 0, none⟩), .pointer (some ⟨w.heap.size + 1 + 1, 0, none⟩)] E (((w.alloc (.cells #[.slice p1 n1 c1] 22 (0, 0))).alloc (.cells #[.slice p2 n2 c2] 22 (0, 0))).alloc (.cells #[.func (.func c) #[] #[]] 45 (0, 0))) Post hpost (enters_of Tryz.func37 (by kernel_rfl) rfl)
    (Lib.hid fun W g hR hg k => q W g w.heap.size (w.heap.size + 1) (w.heap.size + 1 + 1) hR (Nat.le_trans kk.size hg) (kk.trans k) (sa.kept k (by simp)) (sb.kept k (by simp)) (sf.kept k (by simp))))
  clear q sa sb sf hpost
  go_enter Tryz.func19, Tryz.ntmps19
  go_wp2_with fail
  with_reducible refine q1.out.mono ?_
  rintro x w1 ⟨v, rfl, h1, h2, k1⟩
  have H1 := Lib.hid h1
  have H2 := Lib.hid h2
  clear q1 h1 h2
  go_wp2
  go_ret2
  exact ⟨v, rfl, H1.out, H2.out, kk.trans k1⟩
/-- spans of numbers in order -/
def RtI (l : List Iv) : Prop := ∀ s ∈ l, s.1 ≤ s.2
theorem icE_rt {s : Iv} (h : Sm 30 s.1 ∧ Sm 30 s.2) (hr : s.1 ≤ s.2) : icE (RS s.1) (RS s.2) = 0 := by
  rw [icE_v h.1 h.2 (by omega), if_neg (Rat.not_lt.2 hr)]
theorem setE_rt {l : List Iv} (h : SmI l) (hr : RtI l) (hn : l.length ≤ 256) : setE (txI l) = 0 := by
  unfold setE
  rw [txI_len, if_neg (by omega)]
  refine keE_zero fun j hj => ?_
  rw [gL_eq (by rw [txI_len]; exact hj)]
  have hm := List.getElem_mem hj
  simpa [txI] using icE_rt (h _ hm) (hr _ hm)
theorem OkL.rt {l : List Iv} (h : SmI l) (hn : l.length ≤ 256) : OkL (txI l) := .inr ⟨by rw [txI_len]; exact hn, fun s hs => by
  unfold txI at hs
  obtain ⟨t, ht, rfl⟩ := List.mem_map.1 hs
  exact ⟨((h t ht).1.ok (by omega)).size9, ((h t ht).2.ok (by omega)).size9⟩⟩
/-- right sets: the pieces of the sweep -/
theorem iComb_right (va vb : Value) (c : Nat) (bel : Bool → Bool → Bool) (A B : List Iv) (w : World) (sa : SlT w va (txI A)) (sb : SlT w vb (txI B)) (hA : SmI A) (hB : SmI B) (rA : RtI A) (rB : RtI B) (hn : A.length + B.length ≤ 40) (he : ∀ args w, (callFunc c args).run Tryz.prog w = .ok (.enter c args) w) (qf : Bel c bel) :
    Calls Tryz.prog 19 #[va, vb, .func (.func c) #[] #[]] w fun x w' => ∃ v, x = .returned (.tuple #[v, .int .i64 0]) ∧ PostC bel A B v w' ∧ Kp [] w w' := by
  have sa0 := sa
  have sb0 := sb
  obtain ⟨p1, c1, rfl, _⟩ := sa
  obtain ⟨p2, c2, rfl, _⟩ := sb
  refine (iCombined p1 p2 _ c1 _ c2 c 0 w (PostC bel A B) (fun v W W' h k => h.kp v W W' k) fun W g ba bb bf hR hg k xa xb xf => ?_).mono ?_
  · have qa := kSet_any (OkL.rt hA (by omega)) _ g w W sa0 hR hg k
    rw [setE_rt hA rA (by omega), decide_eq_true rfl] at qa
    refine (iComb_0 g ba bb bf c bel _ _ A B w W hR xa xb xf k sa0 sb0 hg hA hB hn (Lib.hid qa) (Lib.hid fun V hV kV => ?_) he qf).mono ?_
    · have := kSet_any (OkL.rt hB (by omega)) _ g w V sb0 hV hg (k.trans kV)
      rw [setE_rt hB rB (by omega), decide_eq_true rfl] at this
      exact this
    · rintro x w' ⟨v, h1, h2, h3, h4⟩
      exact ⟨v, h1, fun _ => h2, h3, h4⟩
  · rintro x w' ⟨v, h1, _, h3, k⟩
    exact ⟨v, h1, h3 rfl, k⟩
end Go.Proofs.YtiommpdbbpddpaaGreat

/- Normal, Union, Intersection, Difference of package interval. -/
namespace Go.Proofs.YtiommpdbbpddpaaGreat
open Go.RowKit
open Go.Lib (nDigits itoa decDigits)

set_option maxRecDepth 100000 in
set_option maxHeartbeats 4000000 in
theorem bel_fst : Bel 43 (fun a _ => a) := Lib.hid fun x y W => by
  have kk := Kp.refl [] W
  go_enter Tryz.func43, Tryz.ntmps43
  go_wp2
  go_ret
  exact ⟨rfl, kk⟩
set_option maxRecDepth 100000 in
set_option maxHeartbeats 4000000 in
theorem bel_or : Bel 20 (fun a b => a || b) := Lib.hid fun x y W => by
  have kk := Kp.refl [] W
  cases x <;> cases y
  all_goals go_enter Tryz.func20, Tryz.ntmps20
  all_goals go_wp2
  all_goals go_ret
  all_goals exact ⟨rfl, kk⟩
set_option maxRecDepth 100000 in
set_option maxHeartbeats 4000000 in
theorem bel_and : Bel 21 (fun a b => a && b) := Lib.hid fun x y W => by
  have kk := Kp.refl [] W
  cases x <;> cases y
  all_goals go_enter Tryz.func21, Tryz.ntmps21
  all_goals go_wp2
  all_goals go_ret
  all_goals exact ⟨rfl, kk⟩
set_option maxRecDepth 100000 in
set_option maxHeartbeats 4000000 in
theorem bel_diff : Bel 22 (fun a b => a && !b) := Lib.hid fun x y W => by
  have kk := Kp.refl [] W
  cases x <;> cases y
  all_goals go_enter Tryz.func22, Tryz.ntmps22
  all_goals go_wp2
  all_goals go_ret
  all_goals exact ⟨rfl, kk⟩
set_option maxRecDepth 100000 in
set_option maxHeartbeats 4000000 in
theorem iNormal_w (p : Option Addr) (n c : Nat) (w : World) (R : Value → Int → World → Prop) (q : Hid (Calls Tryz.prog 19 #[.slice p n c, .slice none 0 0, .func (.func 43) #[] #[]] w fun x w' => ∃ v e, x = .returned (.tuple #[v, .int .i64 e]) ∧ R v e w')) :
    Calls Tryz.prog 23 #[.slice p n c] w fun x w' => ∃ v e, x = .returned (.tuple #[v, .int .i64 e]) ∧ R v e w' := by
  go_enter Tryz.func23, Tryz.ntmps23
  go_wp2_with fail
  with_reducible refine q.out.mono ?_
  rintro x w1 ⟨v, e, rfl, h⟩
  have H := Lib.hid h
  clear h q
  go_wp2
  go_ret2
  exact ⟨v, e, rfl, H.out⟩
set_option maxRecDepth 100000 in
set_option maxHeartbeats 4000000 in
theorem iUnion_w (p p2 : Option Addr) (n c n2 c2 : Nat) (w : World) (R : Value → Int → World → Prop) (q : Hid (Calls Tryz.prog 19 #[.slice p n c, .slice p2 n2 c2, .func (.func 20) #[] #[]] w fun x w' => ∃ v e, x = .returned (.tuple #[v, .int .i64 e]) ∧ R v e w')) :
    Calls Tryz.prog 9 #[.slice p n c, .slice p2 n2 c2] w fun x w' => ∃ v e, x = .returned (.tuple #[v, .int .i64 e]) ∧ R v e w' := by
  go_enter Tryz.func9, Tryz.ntmps9
  go_wp2_with fail
  with_reducible refine q.out.mono ?_
  rintro x w1 ⟨v, e, rfl, h⟩
  have H := Lib.hid h
  clear h q
  go_wp2
  go_ret2
  exact ⟨v, e, rfl, H.out⟩
set_option maxRecDepth 100000 in
set_option maxHeartbeats 4000000 in
theorem iIntersection_w (p p2 : Option Addr) (n c n2 c2 : Nat) (w : World) (R : Value → Int → World → Prop) (q : Hid (Calls Tryz.prog 19 #[.slice p n c, .slice p2 n2 c2, .func (.func 21) #[] #[]] w fun x w' => ∃ v e, x = .returned (.tuple #[v, .int .i64 e]) ∧ R v e w')) :
    Calls Tryz.prog 10 #[.slice p n c, .slice p2 n2 c2] w fun x w' => ∃ v e, x = .returned (.tuple #[v, .int .i64 e]) ∧ R v e w' := by
  go_enter Tryz.func10, Tryz.ntmps10
  go_wp2_with fail
  with_reducible refine q.out.mono ?_
  rintro x w1 ⟨v, e, rfl, h⟩
  have H := Lib.hid h
  clear h q
  go_wp2
  go_ret2
  exact ⟨v, e, rfl, H.out⟩
set_option maxRecDepth 100000 in
set_option maxHeartbeats 4000000 in
theorem iDifference_w (p p2 : Option Addr) (n c n2 c2 : Nat) (w : World) (R : Value → Int → World → Prop) (q : Hid (Calls Tryz.prog 19 #[.slice p n c, .slice p2 n2 c2, .func (.func 22) #[] #[]] w fun x w' => ∃ v e, x = .returned (.tuple #[v, .int .i64 e]) ∧ R v e w')) :
    Calls Tryz.prog 11 #[.slice p n c, .slice p2 n2 c2] w fun x w' => ∃ v e, x = .returned (.tuple #[v, .int .i64 e]) ∧ R v e w' := by
  go_enter Tryz.func11, Tryz.ntmps11
  go_wp2_with fail
  with_reducible refine q.out.mono ?_
  rintro x w1 ⟨v, e, rfl, h⟩
  have H := Lib.hid h
  clear h q
  go_wp2
  go_ret2
  exact ⟨v, e, rfl, H.out⟩
/-- a right set: the normal set with its numbers -/
theorem iNormal_0 (v : Value) (A : List Iv) (w : World) (sa : SlT w v (txI A)) (hA : SmI A) (rA : RtI A) (hn : A.length ≤ 40) :
    Calls Tryz.prog 23 #[v] w fun x w' => ∃ v' f, x = .returned (.tuple #[v', .int .i64 0]) ∧ SlT w' v' (txI f) ∧ SmI f ∧ f.length ≤ 256 ∧ Swept (fun a _ => a) A [] f ∧ Nrm f ∧ (∀ z, InS z f ↔ InS z A) ∧ Kp [] w w' := by
  have sa0 := sa
  obtain ⟨p1, c1, rfl, _⟩ := sa
  refine (iNormal_w p1 _ c1 w (fun v e w' => e = 0 ∧ PostC (fun a _ => a) A [] v w' ∧ Kp [] w w') (Lib.hid ((iComb_right _ _ _ _ A [] w sa0 (SlT.nil w 0 none) hA (fun _ h => by simp at h) rA (fun _ h => by simp at h) (by simpa using hn) (enters_of Tryz.func43 (by kernel_rfl) rfl) bel_fst).mono ?_))).mono ?_
  · rintro x w' ⟨v, h1, h2, k⟩
    exact ⟨_, _, h1, rfl, h2, k⟩
  · rintro x w' ⟨v, e, h1, h2, ⟨f, h3, h4, h5, N, D, h6, h7⟩, k⟩
    subst h2
    obtain ⟨a1, a2⟩ := AlI.fst h7 h6 rA
    exact ⟨v, f, h1, h3, h4, h5, ⟨N, D, h6, h7⟩, a1, a2, k⟩
theorem iUnion_0 (u v : Value) (A B : List Iv) (w : World) (sa : SlT w u (txI A)) (sb : SlT w v (txI B)) (hA : SmI A) (hB : SmI B) (rA : RtI A) (rB : RtI B) (hn : A.length + B.length ≤ 40) :
    Calls Tryz.prog 9 #[u, v] w fun x w' => ∃ v' f, x = .returned (.tuple #[v', .int .i64 0]) ∧ SlT w' v' (txI f) ∧ SmI f ∧ f.length ≤ 256 ∧ Swept (fun a b => a || b) A B f ∧ Kp [] w w' := by
  have sa0 := sa
  have sb0 := sb
  obtain ⟨p1, c1, rfl, _⟩ := sa
  obtain ⟨p2, c2, rfl, _⟩ := sb
  refine (iUnion_w p1 p2 _ c1 _ c2 w (fun v e w' => e = 0 ∧ PostC (fun a b => a || b) A B v w' ∧ Kp [] w w') (Lib.hid ((iComb_right _ _ _ _ A B w sa0 sb0 hA hB rA rB hn (enters_of Tryz.func20 (by kernel_rfl) rfl) bel_or).mono ?_))).mono ?_
  · rintro x w' ⟨v, h1, h2, k⟩
    exact ⟨_, _, h1, rfl, h2, k⟩
  · rintro x w' ⟨v, e, h1, h2, ⟨f, h3, h4, h5, h6⟩, k⟩
    subst h2
    exact ⟨v, f, h1, h3, h4, h5, h6, k⟩
theorem iIntersection_0 (u v : Value) (A B : List Iv) (w : World) (sa : SlT w u (txI A)) (sb : SlT w v (txI B)) (hA : SmI A) (hB : SmI B) (rA : RtI A) (rB : RtI B) (hn : A.length + B.length ≤ 40) :
    Calls Tryz.prog 10 #[u, v] w fun x w' => ∃ v' f, x = .returned (.tuple #[v', .int .i64 0]) ∧ SlT w' v' (txI f) ∧ SmI f ∧ f.length ≤ 256 ∧ Swept (fun a b => a && b) A B f ∧ Kp [] w w' := by
  have sa0 := sa
  have sb0 := sb
  obtain ⟨p1, c1, rfl, _⟩ := sa
  obtain ⟨p2, c2, rfl, _⟩ := sb
  refine (iIntersection_w p1 p2 _ c1 _ c2 w (fun v e w' => e = 0 ∧ PostC (fun a b => a && b) A B v w' ∧ Kp [] w w') (Lib.hid ((iComb_right _ _ _ _ A B w sa0 sb0 hA hB rA rB hn (enters_of Tryz.func21 (by kernel_rfl) rfl) bel_and).mono ?_))).mono ?_
  · rintro x w' ⟨v, h1, h2, k⟩
    exact ⟨_, _, h1, rfl, h2, k⟩
  · rintro x w' ⟨v, e, h1, h2, ⟨f, h3, h4, h5, h6⟩, k⟩
    subst h2
    exact ⟨v, f, h1, h3, h4, h5, h6, k⟩
theorem iDifference_0 (u v : Value) (A B : List Iv) (w : World) (sa : SlT w u (txI A)) (sb : SlT w v (txI B)) (hA : SmI A) (hB : SmI B) (rA : RtI A) (rB : RtI B) (hn : A.length + B.length ≤ 40) :
    Calls Tryz.prog 11 #[u, v] w fun x w' => ∃ v' f, x = .returned (.tuple #[v', .int .i64 0]) ∧ SlT w' v' (txI f) ∧ SmI f ∧ f.length ≤ 256 ∧ Swept (fun a b => a && !b) A B f ∧ Kp [] w w' := by
  have sa0 := sa
  have sb0 := sb
  obtain ⟨p1, c1, rfl, _⟩ := sa
  obtain ⟨p2, c2, rfl, _⟩ := sb
  refine (iDifference_w p1 p2 _ c1 _ c2 w (fun v e w' => e = 0 ∧ PostC (fun a b => a && !b) A B v w' ∧ Kp [] w w') (Lib.hid ((iComb_right _ _ _ _ A B w sa0 sb0 hA hB rA rB hn (enters_of Tryz.func22 (by kernel_rfl) rfl) bel_diff).mono ?_))).mono ?_
  · rintro x w' ⟨v, h1, h2, k⟩
    exact ⟨_, _, h1, rfl, h2, k⟩
  · rintro x w' ⟨v, e, h1, h2, ⟨f, h3, h4, h5, h6⟩, k⟩
    subst h2
    exact ⟨v, f, h1, h3, h4, h5, h6, k⟩
end Go.Proofs.YtiommpdbbpddpaaGreat
