/- Texts Ugc: each says in its own first comment what it proves. -/
import Derived.Test.YtlfeinajjfbpkaaGreatDoorM39
/- Frames: the values of the examples. -/
namespace Go.Proofs.YtlfeinajjfbpkaaGreatDoor
open Go.RowKit

theorem fc_c0 : fcE ⟨#[72]⟩ 1 2 5000 0 0 1000 1011 1 false 30 0 [] = 14 := by rw [fcE_eq]; decide
theorem fc_c1 : fcE ⟨#[72]⟩ 1 2 5000 0 0 1000 1011 1 true 30 0 [] = 14 := by rw [fcE_eq]; decide
theorem fc_c2 : fcE ⟨#[72]⟩ 1 2 5000 0 0 1000 1011 8 false 0 0 [] = 10 := by rw [fcE_eq]; decide
theorem fc_c3 : fcE ⟨#[72]⟩ 1 2 5000 0 0 1000 1011 8 false 0 1 [(⟨#[65]⟩, 0)] = 0 := by rw [fcE_eq]; decide
theorem fc_c4 : fcE ⟨#[72]⟩ 1 2 5000 0 0 1000 1011 3 false 20 0 [] = 13 := by rw [fcE_eq]; decide
theorem fc_c5 : fcE ⟨#[72]⟩ 1 2 5000 0 0 1000 1011 7 false 20 0 [(⟨#[65]⟩, 0), (⟨#[66]⟩, 0)] = 5 := by rw [fcE_eq]; decide
theorem fc_h : fcE ⟨#[72]⟩ 1 2 5000 0 0 1000 1011 8 true 50 1 [(⟨#[65]⟩, 0), (⟨#[66]⟩, 1)] = 0 := by rw [fcE_eq]; decide
theorem fc_p : fcE ⟨#[72]⟩ 2 2 5000 0 0 1000 1011 8 true 50 1 [(⟨#[65]⟩, 0), (⟨#[66]⟩, 1)] = 0 := by rw [fcE_eq]; decide
theorem fc_q0 : fcE ⟨#[80]⟩ 0 0 0 0 0 0 0 1 false 30 0 [] = 0 := by rw [fcE_eq]; decide
theorem fc_q1 : fcE ⟨#[80]⟩ 0 0 0 0 0 0 0 1 true 30 0 [] = 3 := by rw [fcE_eq]; decide
theorem fv_h : vV ⟨#[72]⟩ 1 2 5000 0 0 1000 1011 8 true 50 1 [(⟨#[65]⟩, 0), (⟨#[66]⟩, 1)] = (950, 0) := by unfold vV; rw [fc_h]; unfold vtV wrap64; decide
theorem fb_h : bV ⟨#[72]⟩ 1 2 5000 0 0 1000 1011 8 true 50 1 [(⟨#[65]⟩, 0), (⟨#[66]⟩, 1)] 1004 = (4, 0) := by unfold bV; rw [fc_h]; unfold btV wrap64; decide
theorem fv_p : vV ⟨#[72]⟩ 2 2 5000 0 0 1000 1011 8 true 50 1 [(⟨#[65]⟩, 0), (⟨#[66]⟩, 1)] = (1061, 0) := by unfold vV; rw [fc_p]; unfold vtV wrap64; decide
theorem fb_p : bV ⟨#[72]⟩ 2 2 5000 0 0 1000 1011 8 true 50 1 [(⟨#[65]⟩, 0), (⟨#[66]⟩, 1)] 1004 = (7, 0) := by unfold bV; rw [fc_p]; unfold btV wrap64; decide
end Go.Proofs.YtlfeinajjfbpkaaGreatDoor
