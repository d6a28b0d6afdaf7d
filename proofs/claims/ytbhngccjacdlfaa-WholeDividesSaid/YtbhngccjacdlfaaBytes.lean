/- Bytes that a call makes, fills and turns into a string; a new long number. -/
import Derived.Test.YtbhngccjacdlfaaArr
import Derived.Laws.MakeOwn
import Derived.Laws.BytesString
namespace Go.Proofs.Ytbhngccjacdlfaa
open Go.RowKit

/-- block h holds n bytes f -/
def Byt (w : World) (h n : Nat) (f : Nat → Nat) : Prop :=
  ∃ cs T, w.heap[h]? = some (.cells cs T (0, 0)) ∧ cs.size = n ∧ ∀ i, i < n → cs[i]? = some (.int .u8 (f i : Int))

section
variable {w w' : World} {h n i : Nat} {f : Nat → Nat}
theorem Byt.lt (hb : Byt w h n f) : h < w.heap.size := by
  obtain ⟨cs, T, hb, _⟩ := hb
  rcases Nat.lt_or_ge h w.heap.size with hlt | hge
  · exact hlt
  · rw [Array.getElem?_eq_none hge] at hb; cases hb
theorem Byt.byte (hb : Byt w h n f) (hi : i < n) : w.cell? ⟨h, i, none⟩ = some (.int .u8 (f i : Int)) := by
  obtain ⟨cs, T, hb, hs, hw⟩ := hb
  simp [World.cell?, hb, hw i hi]
theorem Byt.free (hb : Byt w h n f) (i : Nat) : w.frozen? ⟨h, i, none⟩ = false := by
  obtain ⟨cs, T, hb, _⟩ := hb
  simp [World.frozen?, hb]
theorem Byt.same (hb : Byt w h n f) (e : w'.heap[h]? = w.heap[h]?) : Byt w' h n f := by
  obtain ⟨cs, T, h1, h2⟩ := hb
  exact ⟨cs, T, e.trans h1, h2⟩
theorem Byt.kp {S : List Nat} (hb : Byt w h n f) (hk : Kp S w w') (hg : h ∉ S) : Byt w' h n f := hb.same (hk.block h hb.lt hg)
theorem Byt.far (hb : Byt w h n f) {p : Addr} (hp : h ≠ p.block) (u : Value) : Byt (w.setCell p u) h n f := hb.same (Below.heap_setCell w p u h hp)
theorem Byt.alloc (hb : Byt w h n f) (o : Obj) : Byt (w.alloc o) h n f := hb.same (Below.heap_alloc w o h hb.lt)
theorem Byt.drew (hb : Byt w h n f) : Byt w.drew h n f := hb
theorem Byt.drewN (hb : Byt w h n f) (k : Nat) : Byt (w.drewN k) h n f := hb
theorem Byt.congr {f' : Nat → Nat} (hb : Byt w h n f) (e : ∀ i, i < n → f i = f' i) : Byt w h n f' := by
  obtain ⟨cs, T, h1, h2, h3⟩ := hb
  exact ⟨cs, T, h1, h2, fun i hi => by rw [h3 i hi, e i hi]⟩
theorem Byt.set_ (hb : Byt w h n f) (hi : i < n) {x : Nat} {y : Int} (e : y = (x : Int)) : Byt (w.setCell ⟨h, i, none⟩ (.int .u8 y)) h n (upd f i x) := by
  obtain ⟨cs, T, h1, h2, h3⟩ := hb
  subst e
  refine ⟨cs.setIfInBounds i (.int .u8 (x : Int)), T, by simp [World.setCell, Array.getElem?_modify, h1], by simpa using h2, fun j hj => ?_⟩
  unfold upd
  rw [Array.getElem?_setIfInBounds]
  by_cases e : i = j
  · subst e; simp; omega
  · rw [if_neg e, if_neg (fun h => e h.symm)]; exact h3 j hj
end

theorem byte_info : (Try.prog.info? 5).map (fun i => (i.zero, i.size, i.bytes)) = some (some (.int .u8 0), 1, 1) := by kernel_rfl
theorem make_bytes (n : Nat) (hn : n ≤ 281474976710656) (w : World) :
    (Instr.makeSlice 93 (.int .i64 (n : Int)) (.int .i64 (n : Int))).run Try.prog w = .ok (.slice (some ⟨w.heap.size, 0, none⟩) n n) (w.alloc (.cells (madeCells #[.int .u8 0] n) 5)) := by
  have hi := byte_info
  cases hq : Try.prog.info? 5 with
  | none => rw [hq] at hi; cases hi
  | some i =>
    rw [hq] at hi
    simp only [Option.map_some, Option.some.injEq, Prod.mk.injEq] at hi
    have hr := run_make (P := Try.prog) w 93 5 i (.int .u8 0) Try.underlying93 hq hi.1 .i64 .i64 n n (by omega) (by omega) (by rw [hi.2.2]; omega) (by omega)
    rw [hi.2.1, show (Value.int .u8 0).cells = #[Value.int .u8 0] from rfl] at hr
    simpa using hr
theorem Byt.made (w : World) (n : Nat) : Byt (w.alloc (.cells (madeCells #[.int .u8 0] n) 5)) w.heap.size n (fun _ => 0) := by
  refine ⟨_, _, heap_alloc_new w _, size_madeCells _ _, fun i hi => ?_⟩
  simp [madeCells, hi, Nat.mod_one]

/-- the string that bytes make -/
def strOf (f : Nat → Nat) (a m : Nat) : ByteArray := ⟨((List.range m).map fun i => UInt8.ofNat (f (a + i))).toArray⟩
theorem foldl_push (l : List Int) : ∀ s : ByteArray, l.foldl (fun r n => r.push (UInt8.ofNat n.toNat)) s = ⟨(s.data.toList ++ l.map fun n => UInt8.ofNat n.toNat).toArray⟩ := by
  induction l with
  | nil => intro s; simp
  | cons a l ih => intro s; rw [List.foldl_cons, ih]; simp [ByteArray.push]
theorem conv_bytes (d : TypeId) (hd : Try.prog.underlying d = some .string) {w : World} {h n : Nat} {f : Nat → Nat} (hb : Byt w h n f) (a m c : Nat) (ham : a + m ≤ n) :
    (convert 93 d (.slice (some ⟨h, a, none⟩) m c)).run Try.prog w = .ok (.string (strOf f a m)) w := by
  rw [run_convert_bytes_string w 93 d 5 _ m c Try.underlying93 Try.underlying5 hd]
  have hl := run_loadCells_list (P := Try.prog) (w := w) ⟨h, a, none⟩ (((List.range m).map fun i => (f (a + i) : Int)).map (Value.int .u8)) (fun j v hj => by
    simp only [List.map_map, List.getElem?_map] at hj
    by_cases hjm : j < m
    · rw [List.getElem?_range hjm] at hj; simp at hj; subst hj
      have e : (⟨h, a, none⟩ : Addr).add j = ⟨h, a + j, none⟩ := by unfold Addr.add; split <;> simp_all
      rw [e]; exact hb.byte (by omega)
    · rw [List.getElem?_eq_none (by simpa using hjm)] at hj; cases hj)
  simp only [List.length_map, List.length_range] at hl
  rw [run_bytesToString w ⟨h, a, none⟩ m c ((List.range m).map fun i => (f (a + i) : Int)) hl, foldl_push]
  have e : (ByteArray.empty.data.toList ++ ((List.range m).map fun i => (f (a + i) : Int)).map fun n => UInt8.ofNat n.toNat) = (List.range m).map fun i => UInt8.ofNat (f (a + i)) := by
    rw [List.map_map]; rfl
  rw [e]; rfl

/-- a new long number is 0 -/
def zeroList : List Value := List.replicate 229 (Value.int .u32 0) ++ [Value.int .i64 0, Value.bool false]
theorem zeroCells_eq : Try.zeroCells66 = zeroList.toArray := by kernel_rfl
theorem zeroList_len : zeroList.length = 231 := by unfold zeroList; rw [List.length_append, List.length_replicate]; rfl
theorem zeroList_word {i : Nat} (hi : i < 229) : zeroList[i]? = some (.int .u32 0) := by
  unfold zeroList; rw [List.getElem?_append_left (by rw [List.length_replicate]; exact hi), List.getElem?_replicate, if_pos hi]
theorem zeroList_cnt : zeroList[229]? = some (.int .i64 0) := by
  unfold zeroList; rw [List.getElem?_append_right (by rw [List.length_replicate]; omega), List.length_replicate]; rfl
theorem zeroList_sgn : zeroList[230]? = some (.bool false) := by
  unfold zeroList; rw [List.getElem?_append_right (by rw [List.length_replicate]; omega), List.length_replicate]; rfl
theorem NumF.made (w : World) : NumF (w.alloc (.cells Try.zeroCells66 66)) w.heap.size (fun _ => 0) 0 false := by
  have e := zeroCells_eq
  generalize Try.zeroCells66 = Z at *
  subst e
  exact ⟨_, _, heap_alloc_new w _, by rw [List.size_toArray]; exact zeroList_len, fun i hi => by rw [List.getElem?_toArray]; exact zeroList_word hi, by rw [List.getElem?_toArray]; exact zeroList_cnt, by rw [List.getElem?_toArray]; exact zeroList_sgn⟩
end Go.Proofs.Ytbhngccjacdlfaa
