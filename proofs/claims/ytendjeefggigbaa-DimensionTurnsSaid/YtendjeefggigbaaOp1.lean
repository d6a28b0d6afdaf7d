/- A loop over a function whose state lies in cells of its own: what the loop's rounds say rests on the blocks that lay there before. -/
import Derived.Test.YtendjeefggigbaaOb
import Derived.RangeFuncNested
import Derived.RangeFuncBound
import Derived.RangeFuncCalls
import Derived.RangeFuncLeaves
import Derived.RangeFuncBox
import Derived.OwnWalkIn
import Derived.TacticsInMore
import Derived.LoopNIn
import Derived.LoopIn
import Derived.Shelf.RegionOpen
namespace Go.Proofs.Ytendjeefggigbaa
open Go.RowKit

/-- the blocks below B are as they were -/
def Kl (B : Nat) (a w : World) : Prop := w.os = a.os ∧ w.tape = a.tape ∧ w.output = a.output ∧ a.heap.size ≤ w.heap.size ∧ ∀ k, k < B → k < a.heap.size → w.heap[k]? = a.heap[k]?
theorem Kl.mono {B C : Nat} {a w : World} (h : Kl C a w) (hb : B ≤ C) : Kl B a w := ⟨h.1, h.2.1, h.2.2.1, h.2.2.2.1, fun k hk => h.2.2.2.2 k (by omega)⟩
theorem Kx.kl {L : List Nat} {B : Nat} {a w : World} (h : Kx L a w) (hL : ∀ x ∈ L, B ≤ x) : Kl B a w := ⟨h.1, h.2.1, h.2.2.1, h.2.2.2.1, fun k hk ha => h.2.2.2.2 k ha (fun hx => by have := hL k hx; omega)⟩
theorem Is.kl {B b : Nat} {cs : Array Value} {T : TypeId} {a w : World} (h : Is a b cs T) (k : Kl B a w) (hb : b < B) : Is w b cs T := h.same (k.2.2.2.2 b hb h.lt)
theorem Kb.kl {B : Nat} {a b w : World} (h : Kb a b) (k : Kl B b w) (hb : a.heap.size ≤ B) : Kb a w := ⟨k.1.trans h.os, k.2.1.trans h.tape, k.2.2.1.trans h.output, Nat.le_trans h.size k.2.2.2.1, fun i hi => (k.2.2.2.2 i (by omega) (Nat.lt_of_lt_of_le hi h.size)).trans (h.block i hi)⟩
theorem Kx.mono {L M : List Nat} {a w : World} (h : Kx L a w) (hs : ∀ x ∈ L, x ∈ M) : Kx M a w := ⟨h.1, h.2.1, h.2.2.1, h.2.2.2.1, fun k hk hn => h.2.2.2.2 k hk (fun hx => hn (hs k hx))⟩
theorem Kx.put (w : World) (l : Nat) (o : Obj) : Kx [l] w (w.putObj l o) := ⟨rfl, rfl, rfl, by simp, fun k _ hn => World.putObj_heap_other (fun e => hn (by rw [e]; simp))⟩
/-- what is said rests on the blocks below B -/
def Rests {β : Type} (B : Nat) (J : β → World → Prop) : Prop := ∀ s a w, J s a → Kl B a w → J s w
theorem Rests.mono {β : Type} {B C : Nat} {J : β → World → Prop} (h : Rests B J) (hb : B ≤ C) : Rests C J := fun s a w hs k => h s a w hs (k.mono hb)

/-- the iterator's word: its rounds may write the blocks of L, and what is made during them -/
def SeqC {α : Type} (n : Nat) (P : Program) (g : Nat) (lb : Array Value) (encs : α → Array Value) (L : List Nat) (S Sp : List α → Prop) (N : Nat) (w : World) : Prop :=
  ∀ (l : Nat) (J Jx : List α → World → Prop) (W : World), w.heap.size ≤ l → l < W.heap.size → Kx [] w W → Rests W.heap.size J →
    (∀ pre x W1, J pre W1 → pre.length < N → YieldAt Fence.wide (n - 1) P l (encs x) W1 fun e W' =>
      (e = .returned (.bool true) ∧ J (pre ++ [x]) W' ∧ Kx (l :: L) W1 W') ∨ (e = .returned (.bool false) ∧ Jx (pre ++ [x]) W')) → J [] W →
    CallsIn Fence.wide n P g (#[.func (.yield l) #[] #[]] ++ lb) W fun e W' => (∃ v, e = .returned v) ∧ ((∃ xs, S xs ∧ J xs W') ∨ (∃ pre, Sp pre ∧ Jx pre W'))

/-- how a round's body may end: it goes on, or the function returns -/
def postC {α : Type} (L : List Nat) (I Ix : List α → World → Prop) (xs : List α) (W : World) : Exit → Act → World → Prop
  | .normal, _, W' => Kx L W W' ∧ I xs W'
  | .ret, _, W' => Kx L W W' ∧ Ix xs W'
  | _, _, _ => False

theorem loopC {α : Type} {n : Nat} {P : Program} {g : Operand} {ps : Array Tmp} {assign body : Code} {Q : Exit → Act → World → Prop} {a : Act} {w : World} (h1 : 1 ≤ n) {gf : Nat} {lb : Array Value} (hg : a.eval g = .func (.func gf) #[] lb)
    (eg : ∀ args w, (callFunc gf args).run P w = .ok (.enter gf args) w) {encs : α → Array Value} {L : List Nat} {S Sp : List α → Prop} {N : Nat} (hseq : SeqC (n - 1) P gf lb encs L S Sp N w)
    (hL : ∀ x ∈ L, x < w.heap.size) (hps : ∀ x, (encs x).size = ps.size) (I Ix : List α → World → Prop) (hI : Rests w.heap.size I) (hIx : Rests w.heap.size Ix) (h0 : I [] w)
    (hround : ∀ (l : Nat) (pre : List α) (x : α) (W : World), I pre W → pre.length < N → w.heap.size ≤ l → l < W.heap.size →
      assign.wpIn (Fence.wide.inRound l) (n - 1 - 1) P (Exit.then (fun a' Wa => Kx [] W Wa ∧ ∀ W2, Kx [l] Wa W2 → W2.heap.size = Wa.heap.size → body.wpIn (Fence.wide.inRound l) (n - 1 - 1) P (postC L I Ix (pre ++ [x]) W2) a' W2) (fun _ _ _ => False))
        { tmps := (ps.zip (encs x)).foldl (fun t (p, v) => t.setIfInBounds p v) a.tmps, defers := [] } W)
    (hdone : ∀ (D : Nat) (xs : List α) (W : World), S xs → I xs W → W.heap[D]? = some (.deferred (some [])) → w.heap.size ≤ D → Q .normal { a with defers := { target := .collected D, args := #[] } :: a.defers } W)
    (hstop : ∀ (D : Nat) (pre : List α) (W : World), Sp pre → Ix pre W → W.heap[D]? = some (.deferred (some [])) → w.heap.size ≤ D → Q .ret { a with defers := { target := .collected D, args := #[] } :: a.defers } W) :
    (Code.rangeFunc g ps assign body).wpIn Fence.wide n P Q a w := by
  refine wpIn_rangeFunc ?_
  intro fn hfn
  obtain ⟨D, hD⟩ : ∃ D, D = w.heap.size := ⟨_, rfl⟩
  obtain ⟨rc, hrc⟩ : ∃ rc : LoopState → Option Code → Loop, rc = fun st pe => { state := st, pending := pe, fn, tmps := a.tmps, params := ps, assign, body, defers := w.heap.size } := ⟨_, rfl⟩
  obtain ⟨W1, hW1⟩ : ∃ W1, (w.alloc (.deferred (some []))).alloc (.loop (rc .ready none)) = W1 := ⟨_, rfl⟩
  have hz : W1.heap.size = D + 2 := by rw [← hW1, hD]; simp
  have hkw : Kx [] w W1 := by rw [← hW1]; exact (((Kb.refl w).alloc _).alloc _).kx
  have hl1 : W1.heap[D + 1]? = some (.loop (rc .ready none)) := by
    rw [← hW1, hD]; have := World.alloc_heap_new (w.alloc (.deferred (some []))) (.loop (rc .ready none)); rwa [World.size_alloc] at this
  have hd1 : W1.heap[D]? = some (.deferred (some [])) := by
    rw [← hW1, hD]; exact (Below.heap_alloc _ _ _ (by simp)).trans (World.alloc_heap_new w _)
  refine ⟨D + 1, [{ target := .collected D, args := #[] }], W1, { target := .fn (.func gf) lb, args := #[.func (.yield (D + 1)) #[] #[]] }, W1, gf,
    #[.func (.yield (D + 1)) #[] #[]] ++ lb, W1, ?_, ?_, ?_, ?_, fun _ => h1, ?_⟩
  · rw [← hW1, hrc, hD]; exact run_enterLoop_outer _ _ _ _ _
  · simp only [resolve, hg]
    simp [go_sem]
  · intro f' hf'; trivial
  · simp [invoke, go_sem, eg]
  have far : ∀ {b : Nat} {o : Obj} {A B : World}, A.heap[b]? = some o → Kl W1.heap.size A B → b < W1.heap.size → B.heap[b]? = some o := fun {b} {o} {A} {B} h k hb => (k.2.2.2.2 b hb (Array.getElem?_eq_some_iff.1 h).1).trans h
  have keepd : ∀ {W : World} (o : Obj), W.heap[D]? = some (.deferred (some [])) → (W.putObj (D + 1) o).heap[D]? = some (.deferred (some [])) := fun o h => (World.putObj_heap_other (by omega)).trans h
  have turn : ∀ {J : List α → World → Prop} (o : Obj) {s : List α} {W : World}, Rests w.heap.size J → J s W → J s (W.putObj (D + 1) o) := fun {J} o {s} {W} hJ hs => hJ s _ _ hs ((Kx.put W (D + 1) o).kl (by simp; omega))
  refine (hseq (D + 1) (fun pre W => I pre W ∧ W.heap[D + 1]? = some (.loop (rc .ready none)) ∧ W.heap[D]? = some (.deferred (some [])))
    (fun pre W => Ix pre W ∧ W.heap[D + 1]? = some (.loop (rc .done (some .ret))) ∧ W.heap[D]? = some (.deferred (some []))) W1 (by omega) (by omega) hkw
    (fun s A B hs k => ⟨hI s A B hs.1 (k.mono (by omega)), far hs.2.1 k (by omega), far hs.2.2 k (by omega)⟩) ?_ ⟨hI _ _ _ h0 (hkw.kl (by simp)), hl1, hd1⟩).mono ?_
  · rintro pre x W ⟨hi, hl, hd⟩ hlen
    have hlt : D + 1 < W.heap.size := (Array.getElem?_eq_some_iff.1 hl).1
    have hy := run_yield (P := P) (args := encs x) hl (by rw [hrc]; exact hps x)
    rw [hrc] at hy
    refine ⟨fn, _, assign, body, hy, roundIn_of_wpIn hfn (wpIn_mono (hround (D + 1) pre x W hi hlen (by omega) hlt) ?_)⟩
    rintro e a' Wa h
    cases e with
    | normal =>
      obtain ⟨ka, hb⟩ := h
      have hla : Wa.heap[D + 1]? = some (.loop (rc .ready none)) := (ka.2.2.2.2 _ hlt (by simp)).trans hl
      have hda : Wa.heap[D]? = some (.deferred (some [])) := (ka.2.2.2.2 _ (by omega) (by simp)).trans hd
      have hlta : D + 1 < Wa.heap.size := (Array.getElem?_eq_some_iff.1 hla).1
      refine ⟨_, run_beginRound hla (by rw [hrc]), ?_⟩
      have hl2 : (Wa.putObj (D + 1) (.loop { rc .ready none with state := .busy })).heap[D + 1]? = some (.loop { rc .ready none with state := .busy }) := World.putObj_heap_same hlta
      have hd2 : (Wa.putObj (D + 1) (.loop { rc .ready none with state := .busy })).heap[D]? = some (.deferred (some [])) := (World.putObj_heap_other (by omega)).trans hda
      have k2 : Kx [D + 1] Wa (Wa.putObj (D + 1) (.loop { rc .ready none with state := .busy })) := Kx.put _ _ _
      have z2 : (Wa.putObj (D + 1) (.loop { rc .ready none with state := .busy })).heap.size = Wa.heap.size := by simp
      refine wpIn_mono (hb _ k2 z2) ?_
      generalize Wa.putObj (D + 1) (.loop { rc .ready none with state := .busy }) = W2 at *
      have fin : ∀ (jump : Option Code) (W3 : World), Kx L W2 W3 →
          (Instr.endRound (D + 1) jump).run P W3 = .ok (.bool jump.isNone) (W3.putObj (D + 1) (.loop (rc (if jump.isNone then .ready else .done) jump))) ∧
          (W3.putObj (D + 1) (.loop (rc (if jump.isNone then .ready else .done) jump))).heap[D + 1]? = some (.loop (rc (if jump.isNone then .ready else .done) jump)) ∧
          (W3.putObj (D + 1) (.loop (rc (if jump.isNone then .ready else .done) jump))).heap[D]? = some (.deferred (some [])) := fun jump W3 k3 => by
        have hl3 : W3.heap[D + 1]? = some (.loop { rc .ready none with state := .busy }) := (k3.2.2.2.2 _ (by omega) (fun hx => by have := hL _ hx; omega)).trans hl2
        have hd3 : W3.heap[D]? = some (.deferred (some [])) := (k3.2.2.2.2 _ (by omega) (fun hx => by have := hL _ hx; omega)).trans hd2
        have := run_endRound (P := P) jump hl3
        rw [hrc] at this ⊢
        exact ⟨this, World.putObj_heap_same (Array.getElem?_eq_some_iff.1 hl3).1, (World.putObj_heap_other (by omega)).trans hd3⟩
      rintro e a3 W3 hp
      cases e with
      | normal =>
        obtain ⟨k3, hi3⟩ := hp
        obtain ⟨hr, hl4, hd4⟩ := fin none W3 k3
        exact ⟨_, _, hr, .inl ⟨rfl, ⟨turn _ hI hi3, hl4, hd4⟩, (((ka.mono (by simp)).trans (k2.mono (by simp))).trans (k3.mono (fun x hx => List.mem_cons_of_mem _ hx))).trans ((Kx.put _ _ _).mono (by simp))⟩⟩
      | ret =>
        obtain ⟨k3, hi3⟩ := hp
        obtain ⟨hr, hl4, hd4⟩ := fin (some .ret) W3 k3
        exact ⟨_, _, hr, .inr ⟨rfl, turn _ hIx hi3, hl4, hd4⟩⟩
      | exit id => exact hp.elim
      | goto t => exact hp.elim
      | panic ch => exact hp.elim
      | outgrown => exact hp.elim
    | ret => exact h.elim
    | exit id => exact h.elim
    | goto t => exact h.elim
    | panic ch => exact h.elim
    | outgrown => exact h.elim
  · rintro e W2 ⟨⟨v, rfl⟩, (⟨xs, hS, hi, hl, hd⟩ | ⟨pre, hSp, hi, hl, hd⟩)⟩
    · exact ⟨none, _, by have := run_endLoop (P := P) hl (by rw [hrc]; simp); rw [hrc] at this; exact this, hdone _ xs _ hS (turn _ hI hi) (keepd _ hd) (by omega)⟩
    · refine ⟨some .ret, _, by have := run_endLoop (P := P) hl (by rw [hrc]; simp); rw [hrc] at this; exact this, ?_⟩
      dsimp only
      apply wpIn_ret
      exact hstop _ pre _ hSp (turn _ hIx hi) (keepd _ hd) (by omega)
end Go.Proofs.Ytendjeefggigbaa
