/- Texts Qk1, Qk2, Un2: each says in its own first comment what it proves. -/
import Derived.Test.YtlimjohnimgnhaaGreatDoorM37
import Derived.Test.YtlimjohnimgnhaaGreatDoorM29
import Derived.Lib.SliceRun
import Derived.Laws.AppendOwn
import Derived.Test.YtlimjohnimgnhaaGreatDoorM47
import Derived.Test.YtlimjohnimgnhaaGreatDoorM41
/- Features: clones of frames and datums. -/
namespace Go.Proofs.YtlimjohnimgnhaaGreatDoor
open Go.RowKit

theorem flat_at {k : Nat} : ∀ {rows : List (List Value)}, (∀ r ∈ rows, r.length = k) → ∀ i j, j < k → i < rows.length → rows.flatten[i * k + j]? = some ((rows.getD i []).getD j undef)
  | [], _, i, j, _, hi => absurd hi (by simp)
  | r :: rs, h, 0, j, hj, _ => by
    have h1 := h r (by simp)
    rw [List.flatten_cons, Nat.zero_mul, Nat.zero_add, List.getElem?_append_left (by omega)]
    show r[j]? = some (r.getD j undef)
    rw [List.getD_eq_getElem?_getD, List.getElem?_eq_getElem (by omega)]; rfl
  | r :: rs, h, i + 1, j, hj, hi => by
    have h1 := h r (by simp)
    have h2 := flat_at (rows := rs) (fun x hx => h x (by simp [hx])) i j hj (by simpa using hi)
    rw [List.flatten_cons, List.getElem?_append_right (by rw [h1, Nat.succ_mul]; omega), h1, Nat.succ_mul, show i * k + k + j - k = i * k + j by omega, h2]
    rfl
end Go.Proofs.YtlimjohnimgnhaaGreatDoor

/- Features: clones of a frame. -/
namespace Go.Proofs.YtlimjohnimgnhaaGreatDoor
open Go.RowKit

/-- v is a slice of rows of k cells, in a block from n on -/
def SlU (n k : Nat) (w : World) (v : Value) (rows : List (List Value)) : Prop :=
  ∃ (p : Option Addr) (cap : Nat), v = .slice p rows.length cap ∧ (0 < rows.length → ∃ b off, p = some ⟨b, off, none⟩ ∧ n ≤ b ∧ b < w.heap.size ∧ ∀ i, i < rows.length → ∀ j, j < k → w.cell? ⟨b, off + i * k + j, none⟩ = some ((rows.getD i []).getD j undef))
theorem SlU.sl {n k : Nat} {w : World} {v : Value} {rows : List (List Value)} (h : SlU n k w v rows) : Sl [] k w v rows := by
  obtain ⟨p, cap, h1, h2⟩ := h
  refine ⟨p, cap, h1, fun hp => ?_⟩
  obtain ⟨b, off, e, _, hb, hc⟩ := h2 hp
  exact ⟨b, off, e, hb, by simp, hc⟩
theorem SlU.same {n k : Nat} {w w' : World} {v : Value} {rows : List (List Value)} (h : SlU n k w v rows) (hs : w.heap.size ≤ w'.heap.size) (hb : ∀ b, n ≤ b → b < w.heap.size → w'.heap[b]? = w.heap[b]?) : SlU n k w' v rows := by
  obtain ⟨p, cap, h1, h2⟩ := h
  refine ⟨p, cap, h1, fun hp => ?_⟩
  obtain ⟨b, off, e, hn, hlt, hc⟩ := h2 hp
  exact ⟨b, off, e, hn, by omega, fun i hi j hj => (World.cell?_of_block (w := w) (hb b hn hlt)).trans (hc i hi j hj)⟩
theorem SlU.kb {n k : Nat} {w w' : World} {v : Value} {rows : List (List Value)} (h : SlU n k w v rows) (kk : Kb w w') : SlU n k w' v rows := h.same kk.size fun b _ hb => Below.block kk b hb
theorem SlU.alloc {n k : Nat} {w : World} {v : Value} {rows : List (List Value)} (h : SlU n k w v rows) (o : Obj) : SlU n k (w.alloc o) v rows := h.kb ((Kb.refl _).alloc o)
theorem SlU.far {n k : Nat} {w : World} {v : Value} {rows : List (List Value)} (h : SlU n k w v rows) {p : Addr} (hp : p.block < n) (u : Value) : SlU n k (w.setCell p u) v rows := h.same (by simp) fun b hb _ => Below.heap_setCell w p u b (by omega)
theorem SlU.mono {n m k : Nat} {w : World} {v : Value} {rows : List (List Value)} (h : SlU n k w v rows) (hm : m ≤ n) : SlU m k w v rows := by
  obtain ⟨p, cap, h1, h2⟩ := h
  refine ⟨p, cap, h1, fun hp => ?_⟩
  obtain ⟨b, off, e, hn, r⟩ := h2 hp
  exact ⟨b, off, e, by omega, r⟩
theorem own_slU {base k l : Nat} {e : TypeId} {w : World} {v : Value} {rows : List (List Value)} (h : w.ownsRow base e k v l rows.flatten) (hl : l = rows.length) (hr : ∀ r ∈ rows, r.length = k) : SlU base k w v rows := by
  obtain ⟨_, ⟨rfl, h0⟩ | ⟨g, cap, cur, rfl, hb, hh, hn, hc, hz, ht⟩⟩ := h
  · exact ⟨none, 0, by rw [← hl, h0], fun hp => absurd hp (by omega)⟩
  · subst hl
    refine ⟨some ⟨g, 0, none⟩, cap, rfl, fun _ => ⟨g, 0, rfl, hb, ?_, fun i hi j hj => ?_⟩⟩
    · exact (Array.getElem?_eq_some_iff.1 hh).1
    · have h8 := flat_at hr i j hj hi
      have hlt : i * k + j < rows.length * k := by
        have := Nat.mul_le_mul_right k (show i + 1 ≤ rows.length by omega)
        rw [Nat.succ_mul] at this; omega
      rw [← ht, List.getElem?_take, if_pos hlt] at h8
      unfold World.cell?
      rw [hh, Nat.zero_add]
      show cur[i * k + j]? = _
      rw [← h8]; simp
end Go.Proofs.YtlimjohnimgnhaaGreatDoor

/- Frames: the reference: whether a kind of features is among letters. -/
namespace Go.Proofs.YtlimjohnimgnhaaGreatDoor
open Go.RowKit

/-- the letter of a kind -/
def phV (k : Int) : UInt8 := if k = 0 then 80 else if k = 1 then 72 else if k = 2 then 73 else if k = 3 then 83 else 66
def hsB (l : ByteArray) (k : Int) : Bool := l.data.toList.any fun c => c == phV k
theorem drop_at {l : List UInt8} {i : Nat} {c : UInt8} (h : l[i]? = some c) (k : Int) : ((l.drop i).any fun c => c == phV k) = ((c == phV k) || (l.drop (i + 1)).any fun c => c == phV k) := by
  obtain ⟨hi, rfl⟩ := List.getElem?_eq_some_iff.1 h
  rw [List.drop_eq_getElem_cons hi, List.any_cons]
abbrev phT : ByteArray := ⟨#[80, 72, 73, 83, 66]⟩
set_option maxRecDepth 100000 in
set_option maxHeartbeats 8000000 in
theorem rhas1 (l : ByteArray) (q : Nat) (hq : q < 5) (ph : UInt8) (hp : phT[q]'(show q < 5 from hq) = ph) (hph : phV (q : Int) = ph) (hl : l.size ≤ 100) (w : World) : Calls Tryz.prog 92 #[.string l, .int .i64 (q : Int)] w fun r W' => r = .returned (.bool (hsB l (q : Int))) ∧ Kb w W' := by
  have h0 : Hid (hsB l (q : Int) = (l.data.toList.drop 0).any fun c => c == phV (q : Int)) := rfl
  have hlen : l.data.toList.length = l.size := by rw [Array.length_toList]; rfl
  have k0 : (0 : Int) ≤ (q : Int) := by omega
  have k5 : (q : Int) < 5 := by omega
  have HP := Lib.hid hph
  clear hph
  go_enter Tryz.func92, Tryz.ntmps92
  go_wp2
  go_loopg [5] l.size (fun gk s5 wr => ∃ i : Nat, s5 = .int .i64 i ∧ i + gk = l.size ∧ Hid (hsB l (q : Int) = (l.data.toList.drop i).any fun c => c == phV (q : Int)) ∧ Kb w wr)
  case atStart => exact ⟨0, rfl, by omega, h0, Kb.refl _⟩
  case round =>
    obtain ⟨i, rfl, hi, hE, kk⟩ := hrel
    have hi0 : (0 : Int) ≤ (i : Int) := by omega
    by_cases hlt : i < l.size
    · have hil : (i : Int) < (l.size : Int) := by omega
      obtain ⟨c, hci⟩ : ∃ c, l[i]'hlt = c := ⟨_, rfl⟩
      have hc : l.data.toList[i]? = some c := by
        rw [Array.getElem?_toList, Array.getElem?_eq_getElem (show i < l.data.size from hlt)]
        exact congrArg some hci
      have hd := drop_at hc (q : Int)
      rw [HP.out] at hd
      have Hi := Lib.hid hi
      clear hi hc
      rcases Bool.eq_false_or_eq_true ((c.toNat : Int) == (ph.toNat : Int)) with hb | hb
      · have hcp : c = ph := by
          have : c.toNat = ph.toNat := by have := eq_of_beq hb; omega
          exact UInt8.toNat_inj.1 this
        have hEnd : Hid (hsB l (q : Int) = true) := by
          show _ = _
          rw [hE.out, HP.out, hd, hcp, beq_self_eq_true, Bool.true_or]
        clear hd hE hcp
        go_wp2
        go_region
        go_wp2
        go_ret
        exact ⟨by rw [hEnd.out]; rfl, kk.drew⟩
      · have hcp : (c == ph) = false := by
          rw [beq_eq_false_iff_ne] at hb ⊢
          intro e; exact hb (by rw [e])
        have hE2 : Hid (hsB l (q : Int) = (l.data.toList.drop (i + 1)).any fun c => c == phV (q : Int)) := by
          show _ = _
          rw [hE.out, HP.out, hd, hcp, Bool.false_or]
        clear hd hE hcp
        go_wp2
        go_region
        go_wp2
        have hi := Hi.out
        go_roundg (gk - 1)
        case measure => omega
        case rel => exact ⟨i + 1, by go_num, by omega, hE2, kk.drew⟩
    · obtain rfl : i = l.size := by omega
      have hEnd : Hid (hsB l (q : Int) = false) := by
        show _ = _
        rw [hE.out, List.drop_of_length_le (by omega)]; rfl
      clear hi hE
      go_wp2
      go_ret
      exact ⟨by rw [hEnd.out]; rfl, kk⟩
theorem rhas (l : ByteArray) (k : Int) (hk : 0 ≤ k ∧ k < 5) (hl : l.size ≤ 100) : Ca 92 #[.string l, .int .i64 k] (.bool (hsB l k)) := Lib.hid fun w => by
  rcases five hk with rfl | rfl | rfl | rfl | rfl
  · exact rhas1 l 0 (by decide) 80 rfl rfl hl w
  · exact rhas1 l 1 (by decide) 72 rfl rfl hl w
  · exact rhas1 l 2 (by decide) 73 rfl rfl hl w
  · exact rhas1 l 3 (by decide) 83 rfl rfl hl w
  · exact rhas1 l 4 (by decide) 66 rfl rfl hl w
end Go.Proofs.YtlimjohnimgnhaaGreatDoor
