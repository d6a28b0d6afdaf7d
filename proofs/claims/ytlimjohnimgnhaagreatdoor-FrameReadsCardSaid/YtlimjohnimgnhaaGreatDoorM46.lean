/- Texts Ua, Uv: each says in its own first comment what it proves. -/
import Derived.Test.YtlimjohnimgnhaaGreatDoorM38
import Derived.Test.YtlimjohnimgnhaaGreatDoorM17
import Derived.Test.YtlimjohnimgnhaaGreatDoorShelf
import Derived.Lib.AppendIntMem
import Derived.Lib.SmallJoins
import Derived.Lib.OthersKept
import Derived.Shelf.Strings.BuilderK
import Derived.Deep.AppendLies
/- Frames: the tables of the program; contracts in worlds that have them. -/
namespace Go.Proofs.YtlimjohnimgnhaaGreatDoor
open Go.RowKit

def GtbL : List Value := [.string ⟨#[115, 116, 114, 97, 105, 103, 104, 116]⟩, .int .i64 6, .int .i64 6, .int .i64 30, .int .i64 0, .int .i64 0, .string ⟨#[102, 108, 97, 116]⟩, .int .i64 9, .int .i64 0, .int .i64 0, .int .i64 0, .int .i64 0, .string ⟨#[112, 97, 114, 97, 108, 108, 101, 108]⟩, .int .i64 15, .int .i64 6, .int .i64 30, .int .i64 1, .int .i64 2, .string ⟨#[115, 113, 117, 97, 114, 101]⟩, .int .i64 15, .int .i64 6, .int .i64 30, .int .i64 1, .int .i64 2, .string ⟨#[114, 111, 117, 110, 100]⟩, .int .i64 22, .int .i64 0, .int .i64 0, .int .i64 0, .int .i64 0, .string ⟨#[115, 112, 104, 101, 114, 101]⟩, .int .i64 16, .int .i64 0, .int .i64 0, .int .i64 0, .int .i64 0, .string ⟨#[112, 114, 111, 102, 105, 108, 101]⟩, .int .i64 1, .int .i64 0, .int .i64 0, .int .i64 0, .int .i64 3, .string ⟨#[114, 117, 110, 111, 117, 116]⟩, .int .i64 7, .int .i64 0, .int .i64 0, .int .i64 1, .int .i64 1, .string ⟨#[112, 111, 115, 105, 116, 105, 111, 110]⟩, .int .i64 31, .int .i64 22, .int .i64 30, .int .i64 0, .int .i64 3]
def Gtb (w : World) : Prop := ∀ i, i < 54 → w.cell? ⟨2, i, none⟩ = some (GtbL.getD i undef)
section
variable {w a : World}
theorem Gtb.c (h : Gtb w) (i : Nat) (hi : i < 54) : w.cell? ⟨2, i, none⟩ = some (GtbL.getD i undef) := h i hi
theorem Gtb.kb (h : Gtb a) (k : Kb a w) : Gtb w := fun i hi => k.cell (h i hi)
theorem Gtb.lt (h : Gtb w) : 2 < w.heap.size := World.block_lt_of_cell? w _ (h 0 (by decide))
theorem Gtb.alloc (h : Gtb w) (o : Obj) : Gtb (w.alloc o) := fun i hi => cell_al (h i hi) o
theorem Gtb.drew (h : Gtb w) : Gtb w.drew := h
theorem Gtb.far (h : Gtb w) {p : Addr} (hp : 2 ≠ p.block) (u : Value) : Gtb (w.setCell p u) := fun i hi => cell_far (h i hi) hp
theorem Gtb.kx {L : List Nat} (h : Gtb a) (k : Kx L a w) (hn : 2 ∉ L) : Gtb w := fun i hi => (World.cell?_of_block (w := a) (k.2.2.2.2 _ h.lt hn)).trans (h i hi)
theorem Gtb.gn {b : Nat} {z n : Array Value} {T : TypeId} (h : Gtb a) (k : Gn b z n T a w) (hl : 2 < b) : Gtb w := fun i hi => (World.cell?_of_block (w := a) ((k.2.2.2.2 _ h.lt).resolve_right (fun e => by omega))).trans (h i hi)
end
def GtcL : List Value := [.string ⟨#[]⟩, .string ⟨#[40, 77, 41]⟩, .string ⟨#[40, 76, 41]⟩]
def Gtc (w : World) : Prop := ∀ i, i < 3 → w.cell? ⟨0, i, none⟩ = some (GtcL.getD i undef)
section
variable {w a : World}
theorem Gtc.c (h : Gtc w) (i : Nat) (hi : i < 3) : w.cell? ⟨0, i, none⟩ = some (GtcL.getD i undef) := h i hi
theorem Gtc.kb (h : Gtc a) (k : Kb a w) : Gtc w := fun i hi => k.cell (h i hi)
theorem Gtc.lt (h : Gtc w) : 0 < w.heap.size := World.block_lt_of_cell? w _ (h 0 (by decide))
theorem Gtc.alloc (h : Gtc w) (o : Obj) : Gtc (w.alloc o) := fun i hi => cell_al (h i hi) o
theorem Gtc.drew (h : Gtc w) : Gtc w.drew := h
theorem Gtc.far (h : Gtc w) {p : Addr} (hp : 0 ≠ p.block) (u : Value) : Gtc (w.setCell p u) := fun i hi => cell_far (h i hi) hp
theorem Gtc.kx {L : List Nat} (h : Gtc a) (k : Kx L a w) (hn : 0 ∉ L) : Gtc w := fun i hi => (World.cell?_of_block (w := a) (k.2.2.2.2 _ h.lt hn)).trans (h i hi)
theorem Gtc.gn {b : Nat} {z n : Array Value} {T : TypeId} (h : Gtc a) (k : Gn b z n T a w) (hl : 0 < b) : Gtc w := fun i hi => (World.cell?_of_block (w := a) ((k.2.2.2.2 _ h.lt).resolve_right (fun e => by omega))).trans (h i hi)
end
def kW (k : Nat) : ByteArray := [⟨#[115, 116, 114, 97, 105, 103, 104, 116]⟩, ⟨#[102, 108, 97, 116]⟩, ⟨#[112, 97, 114, 97, 108, 108, 101, 108]⟩, ⟨#[115, 113, 117, 97, 114, 101]⟩, ⟨#[114, 111, 117, 110, 100]⟩, ⟨#[115, 112, 104, 101, 114, 101]⟩, ⟨#[112, 114, 111, 102, 105, 108, 101]⟩, ⟨#[114, 117, 110, 111, 117, 116]⟩, ⟨#[112, 111, 115, 105, 116, 105, 111, 110]⟩].getD k ⟨#[]⟩
def kF (k : Nat) : Int := [6, 9, 15, 15, 22, 16, 1, 7, 31].getD k 0
def kD (k : Nat) : Int := [6, 0, 6, 6, 0, 0, 0, 0, 22].getD k 0
def kM (k : Nat) : Int := [30, 0, 30, 30, 0, 0, 0, 0, 30].getD k 0
def kL (k : Nat) : Int := [0, 0, 1, 1, 0, 0, 0, 1, 0].getD k 0
def kT (k : Nat) : Int := [0, 0, 2, 2, 0, 0, 3, 1, 3].getD k 0
theorem Gtb.row {w : World} (h : Gtb w) {k : Nat} (hk : k < 9) : w.cell? ⟨2, k * 6, none⟩ = some (.string (kW k)) ∧ w.cell? ⟨2, k * 6 + 1, none⟩ = some (.int .i64 (kF k)) ∧ w.cell? ⟨2, k * 6 + 2, none⟩ = some (.int .i64 (kD k)) ∧ w.cell? ⟨2, k * 6 + 3, none⟩ = some (.int .i64 (kM k)) ∧ w.cell? ⟨2, k * 6 + 4, none⟩ = some (.int .i64 (kL k)) ∧ w.cell? ⟨2, k * 6 + 5, none⟩ = some (.int .i64 (kT k)) := by
  rcases (show k = 0 ∨ k = 1 ∨ k = 2 ∨ k = 3 ∨ k = 4 ∨ k = 5 ∨ k = 6 ∨ k = 7 ∨ k = 8 by omega) with rfl | rfl | rfl | rfl | rfl | rfl | rfl | rfl | rfl
  all_goals exact ⟨h _ (by decide), h _ (by decide), h _ (by decide), h _ (by decide), h _ (by decide), h _ (by decide)⟩
theorem var_kb {P : Program} {w w' : World} {n : String} {cs : Array Value} (h : w.var? P n = some cs) (k : Kb w w') : w'.var? P n = some cs := by
  unfold World.var? at *
  cases hg : P.globalNamed n with
  | none => simp [hg] at h
  | some g =>
    simp only [hg, Option.bind_some] at h ⊢
    have hlt : g < w.heap.size := by
      rcases Nat.lt_or_ge g w.heap.size with h' | h'
      · exact h'
      · rw [Array.getElem?_eq_none h'] at h; simp at h
    rw [Below.block k g hlt]
    exact h
/-- the variables that texts of numbers reach, and the machine's own -/
structure Gn4 (w : World) : Prop where
  pow : Lib.TabIs Tryz.prog w "internal/strconv.uint64pow10" .u64 Lib.pow10Tab
  syn : ∃ tp p, w.var? Tryz.prog "strconv.ErrSyntax" = some #[.iface tp p]
  rng : ∃ tp p, w.var? Tryz.prog "strconv.ErrRange" = some #[.iface tp p]
  mx : ∃ m : Int, w.cell? ⟨5, 0, none⟩ = some (.int .i64 m)
theorem Gn4.kb {a w : World} (h : Gn4 a) (k : Kb a w) : Gn4 w := by
  obtain ⟨h2, ⟨a, b, h3⟩, ⟨c, d, h4⟩, m, h7⟩ := h
  exact ⟨var_kb h2 k, ⟨a, b, var_kb h3 k⟩, ⟨c, d, var_kb h4 k⟩, m, k.cell h7⟩
/-- a world that has all that w0 had, and the program's tables -/
structure Gf (w0 w : World) : Prop where
  at0 : Kb w0 w
  oa : Gl w0
  ob : Gtb w0
  oc : Gtc w0
  on : Gn4 w0
section
variable {w0 w a : World}
theorem Gf.ta (h : Gf w0 w) : Gl w := h.oa.kb h.at0
theorem Gf.tb (h : Gf w0 w) : Gtb w := h.ob.kb h.at0
theorem Gf.tc (h : Gf w0 w) : Gtc w := h.oc.kb h.at0
theorem Gf.tn (h : Gf w0 w) : Gn4 w := h.on.kb h.at0
theorem Gf.kb (h : Gf w0 a) (k : Kb a w) : Gf w0 w := ⟨h.at0.trans k, h.oa, h.ob, h.oc, h.on⟩
theorem Gf.alloc (h : Gf w0 w) (o : Obj) : Gf w0 (w.alloc o) := h.kb ((Kb.refl w).alloc o)
theorem Gf.drew (h : Gf w0 w) : Gf w0 w.drew := h.kb (show Kb w w.drew from (Kb.refl w).drew)
theorem Gf.kx (h : Gf w0 a) (k : Kx [] a w) (_ : True := trivial) : Gf w0 w := h.kb k.nil
theorem Gf.me (h : Gf w0 w) : Gf w w := ⟨Kb.refl w, h.ta, h.tb, h.tc, h.tn⟩
theorem Gf.size (h : Gf w0 w) : w0.heap.size ≤ w.heap.size := h.at0.size
end
/-- what a call gives, in every world that has the tables and all that w0 had -/
def Cf (w0 : World) (n : Nat) (args : Array Value) (v : Value) : Prop := Hid (∀ W : World, Gf w0 W → Calls Tryz.prog n args W fun r w' => r = .returned v ∧ Kb W w')
section
variable {w0 w1 : World} {n : Nat} {args : Array Value} {v : Value}
theorem Cf.out (h : Cf w0 n args v) (W : World) (g : Gf w0 W) : Calls Tryz.prog n args W fun r w' => r = .returned v ∧ Kb W w' := h W g
theorem Ca.cf (h : Ca n args v) : Cf w0 n args v := Lib.hid fun W _ => h.o W
theorem Cg.cf (h : Cg n args v) : Cf w0 n args v := Lib.hid fun W g => Cg.out h W g.ta
end
/-- what a call gives from a world on -/
def Cw (w : World) (n : Nat) (args : Array Value) (v : Value) : Prop := Hid (∀ W : World, Kb w W → Calls Tryz.prog n args W fun r w' => r = .returned v ∧ Kb W w')
theorem Cw.kb {w w1 : World} {n : Nat} {args : Array Value} {v : Value} (h : Cw w n args v) (k : Kb w w1) : Cw w1 n args v := Lib.hid fun W g => (show ∀ W : World, Kb w W → _ from h) W (k.trans g)
theorem Cf.cw {w0 w : World} {n : Nat} {args : Array Value} {v : Value} (h : Cf w0 n args v) (g : Gf w0 w) : Cw w n args v := Lib.hid fun W k => h.out W (g.kb k)
abbrev FrmT : Type := Int × Bool × Int × Int × Option Addr × Nat × Nat
def encFrm : FrmT → List Value | (kd, dd, tt, mm, fp, fl, fc) => [.int .i64 kd, .bool dd, .int .i64 tt, .int .i64 mm, .slice fp fl fc]
abbrev valFrm : FrmT → Value | (kd, dd, tt, mm, fp, fl, fc) => .agg #[.int .i64 kd, .bool dd, .int .i64 tt, .int .i64 mm, .slice fp fl fc]
set_option maxRecDepth 100000 in
set_option maxHeartbeats 2000000 in
theorem cEach1_Frm (F : Nat) (d : FrmT) (xs : List FrmT) (es : List Int) (sv : Value) (p q : Nat) (w : World) (hn : xs.length ≤ 100000) (hl : es.length = xs.length) (h1 : w.cell? ⟨p, 0, none⟩ = some sv) (h2 : w.cell? ⟨q, 0, none⟩ = some (.func (.func F) #[] #[])) (hs : Sl [] 5 w sv (xs.map encFrm))
    (he : ∀ args W, (callFunc F args).run Tryz.prog W = .ok (.enter F args) W) (hf : ∀ i, i < xs.length → Cw w F #[valFrm (xs.getD i d)] (.int .i64 (es.getD i 0))) :
    Calls Tryz.prog 86 #[.pointer (some ⟨p, 0, none⟩), .pointer (some ⟨q, 0, none⟩)] w fun r W' => r = .returned (.int .i64 (firstE es)) ∧ Kb w W' := by
  obtain ⟨sp, cap, hv, hs⟩ := hs
  rw [List.length_map] at hv hs
  rw [hv] at h1
  have HS := Lib.hid hs
  have HC := Lib.hid hf
  have H0 : Hid (firstE es = firstE (es.drop 0)) := rfl
  have HX := Lib.hid (fun k (hk : k < xs.length) => show (xs.map encFrm).getD k [] = encFrm (xs.getD k d) by simp [List.getD_eq_getElem?_getD, hk])
  generalize hN : xs.length = n at *
  have HD := Lib.hid (fun k (hk : k < n) => firstE_drop (es := es) (k := k) (by omega))
  have HE : Hid (firstE (es.drop n) = 0) := by rw [List.drop_of_length_le (by omega)]; rfl
  clear hs hf hv hl hN
  go_enter Tryz.func86, Tryz.ntmps86
  go_wp2
  go_loopg [4, 5, 8] n (fun gk s4 s5 s8 wr => ∃ k : Nat, s8 = .int .i64 k ∧ k + gk = n ∧ Hid (firstE es = firstE (es.drop k)) ∧ Kb w wr)
  case atStart => exact ⟨0, rfl, by omega, H0, Kb.refl _⟩
  case round =>
    obtain ⟨k, rfl, hk, hE, kk⟩ := hrel
    have hk0 : (0 : Int) ≤ (k : Int) := by omega
    have c2 := kk.cell h2
    by_cases hlt : k < n
    · obtain ⟨b, off, rfl, hb, hbL, hcell⟩ := HS.out (by omega)
      have hX := HX.out k hlt
      have hcal := HC.out k hlt
      have hD := HD.out k hlt
      generalize es.getD k 0 = e at *
      generalize xs.getD k d = x at *
      obtain ⟨kd, dd, tt, mm, fp, fl, fc⟩ := x
      have x0 := kk.cell (hcell k hlt 0 (by omega))
      rw [hX] at x0
      replace x0 : wr.cell? ⟨b, off + k * 5, none⟩ = some (.int .i64 kd) := x0
      have x1 := kk.cell (hcell k hlt 1 (by omega))
      rw [hX] at x1
      replace x1 : wr.cell? ⟨b, off + k * 5 + 1, none⟩ = some (.bool dd) := x1
      have x2 := kk.cell (hcell k hlt 2 (by omega))
      rw [hX] at x2
      replace x2 : wr.cell? ⟨b, off + k * 5 + 2, none⟩ = some (.int .i64 tt) := x2
      have x3 := kk.cell (hcell k hlt 3 (by omega))
      rw [hX] at x3
      replace x3 : wr.cell? ⟨b, off + k * 5 + 3, none⟩ = some (.int .i64 mm) := x3
      have x4 := kk.cell (hcell k hlt 4 (by omega))
      rw [hX] at x4
      replace x4 : wr.cell? ⟨b, off + k * 5 + 4, none⟩ = some (.slice fp fl fc) := x4
      have hcal2 := Lib.hid hcal
      have Hk := Lib.hid hk
      have ka := kk.alloc (.cells #[.int .i64 kd, .bool dd, .int .i64 tt, .int .i64 mm, .slice fp fl fc] 31 (0, 0))
      have ib := Is.made wr #[.int .i64 kd, .bool dd, .int .i64 tt, .int .i64 mm, .slice fp fl fc] 31
      have y0 := ib.c (i := 0) rfl
      have y1 := ib.c (i := 1) rfl
      have y2 := ib.c (i := 2) rfl
      have y3 := ib.c (i := 3) rfl
      have y4 := ib.c (i := 4) rfl
      have c3 := cell_al c2 (.cells #[.int .i64 kd, .bool dd, .int .i64 tt, .int .i64 mm, .slice fp fl fc] 31 (0, 0))
      clear hcell hX hcal ib
      unfold Cw at hcal2
      by_cases h0 : e = 0
      · have hE2 : Hid (firstE es = firstE (es.drop (k + 1))) := hE.out.trans (hD.trans (if_pos h0))
        subst h0
        clear hD hE hk
        go_wp2_with (go_at_fn F; (with_reducible refine (hcal2.out.out _ ka).mono ?_); rintro r w1 ⟨rfl, k1⟩)
        have hk := Hk.out
        go_roundg (gk - 1)
        case measure => omega
        case rel => exact ⟨k + 1, by go_num, by omega, hE2, ka.trans k1⟩
      · have hE2 : Hid (firstE es = e) := hE.out.trans (hD.trans (if_neg h0))
        have hne : (e != 0) = true := by simpa using h0
        clear hD hE hk h0
        go_wp2_with (go_at_fn F; (with_reducible refine (hcal2.out.out _ ka).mono ?_); rintro r w1 ⟨rfl, k1⟩)
        go_ret
        exact ⟨by rw [hE2.out]; rfl, ka.trans k1⟩
    · obtain rfl : k = n := by omega
      have hE2 : Hid (firstE es = 0) := hE.out.trans HE.out
      clear hk hE HE
      go_wp2
      go_ret
      exact ⟨by rw [hE2.out]; rfl, kk⟩
set_option maxRecDepth 100000 in
set_option maxHeartbeats 2000000 in
theorem cEach_Frm (F : Nat) (d : FrmT) (xs : List FrmT) (es : List Int) (sv : Value) (w : World) (hn : xs.length ≤ 100000) (hl : es.length = xs.length) (hs : Sl [] 5 w sv (xs.map encFrm))
    (he : ∀ args W, (callFunc F args).run Tryz.prog W = .ok (.enter F args) W) (hf : ∀ i, i < xs.length → Cw w F #[valFrm (xs.getD i d)] (.int .i64 (es.getD i 0))) :
    Calls Tryz.prog 42 #[.func (.func F) #[] #[], sv] w fun r W' => ∃ v, r = .returned v ∧ Ck [] v (firstE es) W' ∧ Kb w W' := by
  have hs2 := hs
  obtain ⟨sp, cap, hv, _⟩ := hs2
  rw [List.length_map] at hv
  subst hv
  have k1 := (Kb.refl w).alloc (.cells #[.func (.func F) #[] #[]] 38 (0, 0))
  have kk := k1.alloc (.cells #[.slice sp xs.length cap] 26 (0, 0))
  have b0 := (Is.made w #[.func (.func F) #[] #[]] 38).alloc (.cells #[.slice sp xs.length cap] 26 (0, 0))
  have b1 := Is.made (w.alloc (.cells #[.func (.func F) #[] #[]] 38 (0, 0))) #[.slice sp xs.length cap] 26
  rw [World.size_alloc] at b1
  have R : Ck [] (.func (.func 86) #[] #[.pointer (some ⟨w.heap.size + 1, 0, none⟩), .pointer (some ⟨w.heap.size, 0, none⟩)]) (firstE es) ((w.alloc (.cells #[.func (.func F) #[] #[]] 38 (0, 0))).alloc (.cells #[.slice sp xs.length cap] 26 (0, 0))) := by
    refine ⟨_, _, rfl, enters_of Tryz.func86 (by kernel_rfl) rfl, fun W hW => ?_⟩
    exact cEach1_Frm F d xs es _ _ _ W hn hl ((b1.kx hW (by simp)).c rfl) ((b0.kx hW (by simp)).c rfl) (((hs.kb kk).kx hW).none) he (fun i hi => (hf i hi).kb (kk.trans hW.nil))
  have HR := Lib.hid R
  clear R b0 b1 hf he hl hn k1 hs
  go_enter Tryz.func42, Tryz.ntmps42
  go_wp2
  go_ret
  exact ⟨_, rfl, HR.out, kk⟩
end Go.Proofs.YtlimjohnimgnhaaGreatDoor

/- Frames: a strings.Builder that a call has made: copyCheck, WriteByte, WriteString over this program (the shelf's own do not fit it: a branch of copyCheck is refused by the loader). -/
namespace Go.Proofs.YtlimjohnimgnhaaGreatDoor
open Go.RowKit

/-- block b is a builder above B that holds these bytes -/
def Bw (B b : Nat) (l : List UInt8) (w : World) : Prop := Lib.IsBuilderF 101 5 B b (Lib.byteCells l) w
/-- what lies below B is as it was, and so is each block that is neither b nor a row of bytes -/
def Bk (B b : Nat) (a w : World) : Prop := Below B a w ∧ Lib.OthersKept 5 (some b) a w
section
variable {B b : Nat} {a w w' : World}
theorem Bk.refl (B b : Nat) (w : World) : Bk B b w w := ⟨Below.refl _ _, Lib.OthersKept.refl _ _ _⟩
theorem Bk.trans (h : Bk B b a w) (k : Bk B b w w') : Bk B b a w' := ⟨Below.trans h.1 k.1, h.2.trans k.2⟩
theorem Bk.is {c : Nat} {cs : Array Value} {T : TypeId} (h : Bk B b a w) (is : Is a c cs T) (hc : c ≠ b) (hT : T ≠ 5) : Is w c cs T :=
  h.2 c _ is (fun e => hc (by simpa using e)) (fun c' f' e => hT (by injection e))
theorem Bk.kb {u : World} (h : Bk B b a w) (k : Kb u a) (hB : u.heap.size ≤ B) : Kb u w := Below.trans k (Below.mono h.1 hB)
theorem Bk.alloc (h : Bk B b a w) (o : Obj) (hB : B ≤ w.heap.size) : Bk B b a (w.alloc o) := ⟨Below.alloc h.1 hB o, h.2.alloc o⟩
end
theorem info_byte : (Tryz.prog.info? 5).map (fun i => (i.zero, i.size, i.bytes)) = some (some (.int .u8 0), 1, 1) := by kernel_rfl
theorem bld_ne_byte : (101 : TypeId) ≠ 5 := by decide
theorem byteCells_app (l : List UInt8) (s : ByteArray) : Lib.byteCells (l ++ s.data.toList) = Lib.byteCells l ++ Lib.strCells s := by
  simp [Lib.byteCells, Lib.strCells]
theorem byteCells_snoc (l : List UInt8) : Lib.byteCells (l ++ [32]) = Lib.byteCells l ++ [.int .u8 32] := by
  simp [Lib.byteCells]
theorem bld_size : (Tryz.prog.info? 101).map (·.size) = some 2 := by kernel_rfl
theorem bld_lies : liesAt Tryz.prog Tryz.prog.depth 101 (2 / Tryz.prog.cellsOf 101) 0 101 1 = true := by kernel_rfl
set_option maxRecDepth 100000 in
set_option maxHeartbeats 4000000 in
theorem bCheck (B b : Nat) (bs : List Value) (w : World) (h : Lib.IsBuilderF 101 5 B b bs w) : Calls Tryz.prog 107 #[.pointer (some ⟨b, 0, none⟩)] w fun r W' => r = .returned (.tuple #[]) ∧ Lib.BuilderAtF 101 5 B b (.pointer (some ⟨b, 0, none⟩)) bs W' ∧ Bk B b w W' := by
  obtain ⟨j, hj, hjs⟩ := Option.map_eq_some_iff.1 bld_size
  rcases h with h | h
  · have c0 := h.cell0
    have f0 := h.frozen0
    have sh := h.shape
    have H := Lib.hid h
    clear h
    go_enter Tryz.func107, Tryz.ntmps107
    go_wp2
    rw [Lib.run_to_unsafe w ⟨b, 0, none⟩ Tryz.underlying98 Tryz.underlying170 hj (by rw [hjs]; decide) sh (Nat.zero_lt_succ 1)]
    simp only [Result.andThen]
    rw [Oper.upon_value]
    go_wp2
    rw [run_callFunc_extern Tryz.func132 (by kernel_rfl) (by kernel_rfl) (by kernel_rfl) (e := Extern.AbiNoEscape.same) (by kernel_rfl)]
    rw [Lib.run_noEscape]
    simp only [Result.andThen]
    rw [Oper.upon_value]
    go_wp2
    rw [Lib.run_from_unsafe w ⟨b, 0, none⟩ Tryz.underlying170 Tryz.underlying98 hj sh bld_lies]
    simp only [Result.andThen]
    rw [Oper.upon_value]
    go_wp2
    go_end0
    exact ⟨rfl, H.out.used _, (Below.refl B w).setCell (p := ⟨b, 0, none⟩) H.out.1 _, (Lib.OthersKept.refl _ _ w).setCell ⟨b, 0, none⟩ rfl _⟩
  · have c0 := h.cell0
    have H := Lib.hid h
    clear h
    go_enter Tryz.func107, Tryz.ntmps107
    go_wp2
    rw [Lib.run_neq_ptr_same w _ Tryz.underlying98 hj]
    go_wp2
    go_end0
    exact ⟨rfl, H.out, Bk.refl B b w⟩
/-- what an append to a builder's row leaves -/
theorem bw_put {B b n : Nat} {a w1 w2 : World} {v v' : Value} {bs bs' : List Value} (hk : Bk B b a w1) (hB : B ≤ b) (hbk : w1.heap[b]? = some (.cells #[.pointer (some ⟨b, 0, none⟩), v] 101 (0, 0))) (hown : w1.ownsRowF B 5 1 v bs.length bs) (hne : v.ownBlock ≠ some b)
    (hg : w1.grownBy w2 v.ownBlock) (hown' : w2.ownsRowF B 5 1 v' n bs') (hn : n = bs'.length) (haw : B ≤ w1.heap.size) :
    w2.cell? ⟨b, 0, none⟩ = some (.pointer (some ⟨b, 0, none⟩)) ∧ w2.cell? ⟨b, 1, none⟩ = some v ∧ w2.frozen? ⟨b, 1, none⟩ = false ∧ Lib.BuilderAtF 101 5 B b (.pointer (some ⟨b, 0, none⟩)) bs' (w2.setCell ⟨b, 1, none⟩ v') ∧ Bk B b a (w2.setCell ⟨b, 1, none⟩ v') := by
  have hlt : b < w1.heap.size := (Array.getElem?_eq_some_iff.1 hbk).1
  have hb2 : w2.heap[b]? = some (.cells #[.pointer (some ⟨b, 0, none⟩), v] 101 (0, 0)) := by
    rw [hg.block b hlt (fun e => hne e.symm)]; exact hbk
  refine ⟨by rw [Lib.cell_of_heap hb2]; rfl, by rw [Lib.cell_of_heap hb2]; rfl, Lib.frozen_of_heap hb2 1, ?_, ?_⟩
  · exact Lib.BuilderAtF.put hB hb2 (by rw [← hn]; exact hown') bld_ne_byte
  · exact ⟨(hk.1.grown hg haw (fun k h => (hown.lt k h).1)).setCell (p := ⟨b, 1, none⟩) hB _, (hk.2.grown hg (Lib.ownsRowF_kind hown)).setCell ⟨b, 1, none⟩ rfl _⟩
set_option maxRecDepth 100000 in
set_option maxHeartbeats 4000000 in
theorem bString (B b : Nat) (l : List UInt8) (s : ByteArray) (w : World) (h : Bw B b l w) (hlen : l.length + s.size ≤ 1000000000) (hBw : B ≤ w.heap.size) : Calls Tryz.prog 68 #[.pointer (some ⟨b, 0, none⟩), .string s] w fun r W' => (∃ v, r = .returned v) ∧ Bw B b (l ++ s.data.toList) W' ∧ Bk B b w W' := by
  obtain ⟨i0, hi, hz0, hz1, hz2⟩ := info_parts info_byte
  have hbl : (Lib.byteCells l).length = l.length := Lib.byteCells_length l
  have hq := Lib.hid (bCheck B b (Lib.byteCells l) w h)
  clear h
  go_enter Tryz.func68, Tryz.ntmps68
  go_wp2_with fail
  refine (hq.out).mono ?_
  rintro e w1 ⟨rfl, ⟨hB, v, hbk, hown, hne⟩, hk⟩
  have c1 : w1.cell? ⟨b, 1, none⟩ = some v := by rw [Lib.cell_of_heap hbk]; rfl
  have hsz := hk.1.size
  have HB := Lib.hid hbk
  have HN := Lib.hid hne
  clear hbk hne
  go_wp2_with (at_builtin; refine Lib.wpList_append_own_stringF _ rfl _ _ 99 9 rfl B 5 i0 Tryz.underlying99 Tryz.underlying9 hi hz0 hz1 hz2 _ _ _ rfl hown s rfl ?c3 ?c4 ?c5 ?_)
  case c3 => unfold maxLen; omega
  case c4 => omega
  case c5 => omega
  intro v' w2 hown' hgrow _
  obtain ⟨d0, d1, f1, hp, hk2⟩ := bw_put hk hB HB.out hown HN.out hgrow hown' (by simp [Lib.strCells_length, Lib.byteCells_length]) (by omega)
  obtain ⟨ao, n', cap, rfl⟩ : ∃ ao n' cap, v' = .slice ao n' cap := by
    rcases hown'.2 with ⟨hv, _⟩ | ⟨g, cap, cur, fz, hv, _⟩
    · exact ⟨_, _, _, hv⟩
    · exact ⟨_, _, _, hv⟩
  have HP := Lib.hid hp
  have HK := Lib.hid hk2
  clear hp hk2 hown' hgrow hown hk
  go_wp2
  go_ret2
  exact ⟨⟨_, rfl⟩, .inr (by rw [byteCells_app]; exact HP.out), HK.out⟩
set_option maxRecDepth 100000 in
set_option maxHeartbeats 4000000 in
theorem bByte (B b : Nat) (l : List UInt8) (w : World) (h : Bw B b l w) (hlen : l.length + 1 ≤ 1000000000) (hBw : B ≤ w.heap.size) : Calls Tryz.prog 67 #[.pointer (some ⟨b, 0, none⟩), .int .u8 32] w fun r W' => (∃ v, r = .returned v) ∧ Bw B b (l ++ [32]) W' ∧ Bk B b w W' := by
  obtain ⟨i0, hi, hz0, hz1, hz2⟩ := info_parts info_byte
  have hbl : (Lib.byteCells l).length = l.length := Lib.byteCells_length l
  have hq := Lib.hid (bCheck B b (Lib.byteCells l) w h)
  clear h
  go_enter Tryz.func67, Tryz.ntmps67
  go_wp2_with fail
  refine (hq.out).mono ?_
  rintro e w1 ⟨rfl, ⟨hB, v, hbk, hown, hne⟩, hk⟩
  have c1 : w1.cell? ⟨b, 1, none⟩ = some v := by rw [Lib.cell_of_heap hbk]; rfl
  have hsz := hk.1.size
  have hlt : b < w1.heap.size := (Array.getElem?_eq_some_iff.1 hbk).1
  have HB := Lib.hid hbk
  have HN := Lib.hid hne
  have HL := Lib.hid hlt
  clear hbk hne hlt
  go_wp2_with (at_builtin; refine wpList_append_ownF _ rfl _ _ 99 rfl B 5 i0 (.int .u8 0) 1 1 Tryz.underlying99 hi hz0 hz1 hz2 rfl (by decide) _ _ _ rfl (hown.alloc _) ⟨w1.heap.size, 0, none⟩ 1 1 [.int .u8 32] rfl rfl ?c1 ?c2 ?c3 ?c4 ?c5 ?_)
  case c1 => exact World.news_of_block (show (w1.heap.push _)[w1.heap.size]? = some (.cells #[.int .u8 32] 5 (0, 0)) by simp)
  case c2 => intro u hu; simp at hu; subst hu; rfl
  case c3 => unfold maxLen; omega
  case c4 => omega
  case c5 => simp; omega
  intro v' w2 hown' hgrow _
  obtain ⟨d0, d1, f1, hp, hk2⟩ := bw_put (hk.alloc (.cells #[.int .u8 32] 5 (0, 0)) (by omega)) hB ((Lib.alloc_old w1 _ b HL.out).trans HB.out) (hown.alloc _) HN.out hgrow hown' (by simp [Lib.byteCells_length]) (by simp; omega)
  obtain ⟨ao, n', cap, rfl⟩ : ∃ ao n' cap, v' = .slice ao n' cap := by
    rcases hown'.2 with ⟨hv, _⟩ | ⟨g, cap, cur, fz, hv, _⟩
    · exact ⟨_, _, _, hv⟩
    · exact ⟨_, _, _, hv⟩
  have HP := Lib.hid hp
  have HK := Lib.hid hk2
  clear hp hk2 hown' hgrow hown hk
  go_wp2
  go_ret
  exact ⟨⟨_, rfl⟩, .inr (by rw [byteCells_snoc]; exact HP.out), HK.out⟩
end Go.Proofs.YtlimjohnimgnhaaGreatDoor
