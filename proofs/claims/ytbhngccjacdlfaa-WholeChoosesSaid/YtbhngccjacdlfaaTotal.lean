/- Walk over whole.Total: the sum of a list of texts. -/
import Derived.Test.YtbhngccjacdlfaaTop
namespace Go.Proofs.Ytbhngccjacdlfaa
open Go.RowKit

def sumB (ss : List ByteArray) : ByteArray := if chkL ss = 0 then resB (ss.map valS).sum else ⟨#[]⟩
def sumE (ss : List ByteArray) : Int := if chkL ss = 0 then resE (ss.map valS).sum else chkL ss
theorem chkL_all {ss : List ByteArray} (h : chkL ss = 0) : ∃ zs : List Int, ss = zs.map S ∧ ∀ z ∈ zs, Ok z := by
  induction ss with
  | nil => exact ⟨[], rfl, by simp⟩
  | cons a t ih =>
    unfold chkL at h
    by_cases ha : chk a.data.toList = 0
    · rw [if_pos ha] at h
      obtain ⟨zs, rfl, hz⟩ := ih h
      obtain ⟨z, rfl, hz1⟩ := of_chk_zero ha
      refine ⟨z :: zs, rfl, fun y hy => ?_⟩
      rcases List.mem_cons.1 hy with rfl | hy
      · exact hz1
      · exact hz y hy
    · rw [if_neg ha] at h; exact absurd h ha
theorem map_valS (zs : List Int) : (zs.map S).map valS = zs := by
  induction zs with
  | nil => rfl
  | cons a t ih => rw [List.map_cons, List.map_cons, ih, valS_S]

/-- the sum of a slice that is not empty, for all texts -/
theorem sum_all (g o c : Nat) (ss : List ByteArray) (w : World) (hs : Strs w g o ss) (hg : g < w.heap.size) (hz : ∀ s ∈ ss, s.size ≤ 9223372036854775807) (hl : ss.length ≤ 4096) :
    Calls Try.prog 38 #[.slice (some ⟨g, o, none⟩) ss.length c] w fun e w' => e = .returned (.tuple #[.string (sumB ss), .int .i64 (sumE ss)]) ∧ Kp [] w w' := by
  by_cases h : chkL ss = 0
  · obtain ⟨zs, rfl, hok⟩ := chkL_all h
    have := sum_ok g o c zs w hs hg hok (by simpa using hl)
    unfold sumB sumE
    rw [if_pos h, if_pos h, map_valS, List.length_map]; exact this
  · refine (sum_bad g o c ss w hs hz (by omega) h).mono ?_
    rintro e w' ⟨he, rfl⟩
    unfold sumB sumE
    rw [if_neg h, if_neg h]; exact ⟨he, Kp.refl _ _⟩

set_option maxHeartbeats 1000000 in
theorem checkAll_nil (a : Option Addr) (c : Nat) (w : World) :
    Calls Try.prog 42 #[.slice a 0 c] w fun e w' => e = .returned (.int .i64 0) ∧ w = w' := by
  go_enter Try.func42, Try.ntmps42
  go_wp2
  go_loop [8] (fun s8 => s8 = .int .i64 0) (fun _ => 0)
  case atStart => rfl
  case round =>
    subst hrel
    go_wp2
    go_ret
    exact ⟨rfl, rfl⟩

set_option maxRecDepth 100000 in
set_option maxHeartbeats 1000000 in
theorem sum_nil (a : Option Addr) (c : Nat) (w : World) :
    Calls Try.prog 38 #[.slice a 0 c] w fun e w' => e = .returned (.tuple #[.string (sumB []), .int .i64 (sumE [])]) ∧ Kp [] w w' := by
  have hn0 := NumZ.made w
  have hk0 : Kp [] w (w.alloc (.cells Try.zeroCells66 66)) := (Kp.refl _ _).alloc _
  have hv1 : Hid (sumB [] = resB 0) := by show sumB [] = _; exact if_pos rfl
  have hv2 : Hid (sumE [] = resE 0) := by show sumE [] = _; exact if_pos rfl
  go_enter Try.func38, Try.ntmps38
  go_wp2_with fail
  refine (checkAll_nil a c _).mono ?_
  rintro e w' ⟨rfl, rfl⟩
  go_wp2
  go_loopg [16] 1 (fun _ s16 wr => s16 = .int .i64 0 ∧ NumZ wr w.heap.size 0 ∧ Kp [] w wr)
  case atStart => exact ⟨rfl, hn0, hk0⟩
  case round =>
    obtain ⟨rfl, hn, hk⟩ := hrel
    go_wp2_with fail
    refine (textZ _ _ _ hn).mono ?_
    rintro e w2 ⟨rfl, hk2⟩
    go_wp2
    go_ret2
    exact ⟨by rw [hv1.out, hv2.out]; rfl, hk.trans hk2⟩

def totB (ss : List ByteArray) : ByteArray := if 4096 < ss.length then ⟨#[]⟩ else sumB ss
def totE (ss : List ByteArray) : Int := if 4096 < ss.length then 5 else sumE ss

set_option maxHeartbeats 1000000 in
theorem Total_many (a : Option Addr) (n c : Nat) (w : World) (hn : 4096 < n) (hn' : n ≤ 9223372036854775807) :
    Calls Try.prog 21 #[.slice a n c] w fun e w' => e = .returned (.tuple #[.string ⟨#[]⟩, .int .i64 5]) ∧ w = w' := by
  go_enter Try.func21, Try.ntmps21
  go_wp2
  go_ret2
  exact ⟨rfl, rfl⟩
set_option maxHeartbeats 1000000 in
theorem Total_few (a : Option Addr) (n c : Nat) (vB : ByteArray) (vE : Int) (w : World) (hn : n ≤ 4096) (hsum : Hid (Calls Try.prog 38 #[.slice a n c] w fun e w' => e = .returned (.tuple #[.string vB, .int .i64 vE]) ∧ Kp [] w w')) :
    Calls Try.prog 21 #[.slice a n c] w fun e w' => e = .returned (.tuple #[.string vB, .int .i64 vE]) ∧ Kp [] w w' := by
  have hn1 : ¬ (4096 : Int) < (n : Int) := by omega
  go_enter Try.func21, Try.ntmps21
  go_wp2_with fail
  refine hsum.out.mono ?_
  rintro e w' ⟨rfl, hk⟩
  go_wp2
  go_ret2
  exact ⟨rfl, hk⟩
end Go.Proofs.Ytbhngccjacdlfaa
