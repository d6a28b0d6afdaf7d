/- Texts Uzc: each says in its own first comment what it proves. -/
import Derived.Test.YtlfeinajjfbpkaaGreatDoorM23
/- Frames: what the texts of the examples tell. -/
namespace Go.Proofs.YtlfeinajjfbpkaaGreatDoor
open Go.RowKit

theorem it0 : itV 0 = ⟨#[48]⟩ := by
  unfold itV Lib.itoa
  rw [if_neg (by decide), show (0 : Int).toNat = 0 from rfl, Lib.decDigits, dif_pos (by decide)]; rfl
theorem it20 : itV 20 = ⟨#[50, 48]⟩ := by
  unfold itV Lib.itoa
  rw [if_neg (by decide), show (20 : Int).toNat = 20 from rfl, Lib.decDigits, dif_neg (by decide), Lib.decDigits, dif_pos (by decide)]; rfl
theorem it30 : itV 30 = ⟨#[51, 48]⟩ := by
  unfold itV Lib.itoa
  rw [if_neg (by decide), show (30 : Int).toNat = 30 from rfl, Lib.decDigits, dif_neg (by decide), Lib.decDigits, dif_pos (by decide)]; rfl
theorem it50 : itV 50 = ⟨#[53, 48]⟩ := by
  unfold itV Lib.itoa
  rw [if_neg (by decide), show (50 : Int).toNat = 50 from rfl, Lib.decDigits, dif_neg (by decide), Lib.decDigits, dif_pos (by decide)]; rfl
theorem ps0_split : splV ⟨#[112, 111, 115, 105, 116, 105, 111, 110, 32, 100, 105, 115, 99, 32, 53, 48, 40, 77, 41, 32, 65, 32, 66, 40, 77, 41]⟩ = [⟨#[112, 111, 115, 105, 116, 105, 111, 110]⟩, ⟨#[100, 105, 115, 99]⟩, ⟨#[53, 48, 40, 77, 41]⟩, ⟨#[65]⟩, ⟨#[66, 40, 77, 41]⟩] := by decide
theorem ps0_count : Lib.countB ⟨#[112, 111, 115, 105, 116, 105, 111, 110, 32, 100, 105, 115, 99, 32, 53, 48, 40, 77, 41, 32, 65, 32, 66, 40, 77, 41]⟩ ⟨#[32]⟩ + 1 = 5 := by decide
theorem ps0_read : rdV [⟨#[112, 111, 115, 105, 116, 105, 111, 110]⟩, ⟨#[100, 105, 115, 99]⟩, ⟨#[53, 48, 40, 77, 41]⟩, ⟨#[65]⟩, ⟨#[66, 40, 77, 41]⟩] = ⟨8, true, 50, 1, [(⟨#[65]⟩, 0), (⟨#[66]⟩, 1)]⟩ := by rw [rdV_eq]; rfl
theorem ps0_plain : fpE 8 50 1 [(⟨#[65]⟩, 0), (⟨#[66]⟩, 1)] = 0 := by rw [fpE_eq]; decide
theorem ps0_text : textV 8 true 50 1 [(⟨#[65]⟩, 0), (⟨#[66]⟩, 1)] = ⟨#[112, 111, 115, 105, 116, 105, 111, 110, 32, 100, 105, 115, 99, 32, 53, 48, 40, 77, 41, 32, 65, 32, 66, 40, 77, 41]⟩ := by unfold textV headL; rw [it50]; decide
theorem ps1_split : splV ⟨#[102, 108, 97, 116, 32, 51, 48]⟩ = [⟨#[102, 108, 97, 116]⟩, ⟨#[51, 48]⟩] := by decide
theorem ps1_count : Lib.countB ⟨#[102, 108, 97, 116, 32, 51, 48]⟩ ⟨#[32]⟩ + 1 = 2 := by decide
theorem ps1_read : rdV [⟨#[102, 108, 97, 116]⟩, ⟨#[51, 48]⟩] = ⟨1, false, 30, 0, []⟩ := by rw [rdV_eq]; rfl
theorem ps1_plain : fpE 1 30 0 [] = 0 := by rw [fpE_eq]; decide
theorem ps1_text : textV 1 false 30 0 [] = ⟨#[102, 108, 97, 116, 32, 51, 48]⟩ := by unfold textV headL; rw [it30]; decide
theorem ps2_split : splV ⟨#[102, 108, 97, 116, 32, 100, 105, 115, 99, 32, 51, 48]⟩ = [⟨#[102, 108, 97, 116]⟩, ⟨#[100, 105, 115, 99]⟩, ⟨#[51, 48]⟩] := by decide
theorem ps2_count : Lib.countB ⟨#[102, 108, 97, 116, 32, 100, 105, 115, 99, 32, 51, 48]⟩ ⟨#[32]⟩ + 1 = 3 := by decide
theorem ps2_read : rdV [⟨#[102, 108, 97, 116]⟩, ⟨#[100, 105, 115, 99]⟩, ⟨#[51, 48]⟩] = ⟨1, true, 30, 0, []⟩ := by rw [rdV_eq]; rfl
theorem ps2_plain : fpE 1 30 0 [] = 0 := by rw [fpE_eq]; decide
theorem ps2_text : textV 1 true 30 0 [] = ⟨#[102, 108, 97, 116, 32, 100, 105, 115, 99, 32, 51, 48]⟩ := by unfold textV headL; rw [it30]; decide
theorem ps3_split : splV ⟨#[112, 111, 115, 105, 116, 105, 111, 110, 32, 48]⟩ = [⟨#[112, 111, 115, 105, 116, 105, 111, 110]⟩, ⟨#[48]⟩] := by decide
theorem ps3_count : Lib.countB ⟨#[112, 111, 115, 105, 116, 105, 111, 110, 32, 48]⟩ ⟨#[32]⟩ + 1 = 2 := by decide
theorem ps3_read : rdV [⟨#[112, 111, 115, 105, 116, 105, 111, 110]⟩, ⟨#[48]⟩] = ⟨8, false, 0, 0, []⟩ := by rw [rdV_eq]; rfl
theorem ps3_plain : fpE 8 0 0 [] = 0 := by rw [fpE_eq]; decide
theorem ps3_text : textV 8 false 0 0 [] = ⟨#[112, 111, 115, 105, 116, 105, 111, 110, 32, 48]⟩ := by unfold textV headL; rw [it0]; decide
theorem ps4_split : splV ⟨#[112, 111, 115, 105, 116, 105, 111, 110, 32, 48, 40, 77, 41, 32, 65]⟩ = [⟨#[112, 111, 115, 105, 116, 105, 111, 110]⟩, ⟨#[48, 40, 77, 41]⟩, ⟨#[65]⟩] := by decide
theorem ps4_count : Lib.countB ⟨#[112, 111, 115, 105, 116, 105, 111, 110, 32, 48, 40, 77, 41, 32, 65]⟩ ⟨#[32]⟩ + 1 = 3 := by decide
theorem ps4_read : rdV [⟨#[112, 111, 115, 105, 116, 105, 111, 110]⟩, ⟨#[48, 40, 77, 41]⟩, ⟨#[65]⟩] = ⟨8, false, 0, 1, [(⟨#[65]⟩, 0)]⟩ := by rw [rdV_eq]; rfl
theorem ps4_plain : fpE 8 0 1 [(⟨#[65]⟩, 0)] = 0 := by rw [fpE_eq]; decide
theorem ps4_text : textV 8 false 0 1 [(⟨#[65]⟩, 0)] = ⟨#[112, 111, 115, 105, 116, 105, 111, 110, 32, 48, 40, 77, 41, 32, 65]⟩ := by unfold textV headL; rw [it0]; decide
theorem ps5_split : splV ⟨#[115, 113, 117, 97, 114, 101, 32, 50, 48]⟩ = [⟨#[115, 113, 117, 97, 114, 101]⟩, ⟨#[50, 48]⟩] := by decide
theorem ps5_count : Lib.countB ⟨#[115, 113, 117, 97, 114, 101, 32, 50, 48]⟩ ⟨#[32]⟩ + 1 = 2 := by decide
theorem ps5_read : rdV [⟨#[115, 113, 117, 97, 114, 101]⟩, ⟨#[50, 48]⟩] = ⟨3, false, 20, 0, []⟩ := by rw [rdV_eq]; rfl
theorem ps5_plain : fpE 3 20 0 [] = 0 := by rw [fpE_eq]; decide
theorem ps5_text : textV 3 false 20 0 [] = ⟨#[115, 113, 117, 97, 114, 101, 32, 50, 48]⟩ := by unfold textV headL; rw [it20]; decide
theorem ps6_split : splV ⟨#[114, 117, 110, 111, 117, 116, 32, 50, 48, 32, 65, 32, 66]⟩ = [⟨#[114, 117, 110, 111, 117, 116]⟩, ⟨#[50, 48]⟩, ⟨#[65]⟩, ⟨#[66]⟩] := by decide
theorem ps6_count : Lib.countB ⟨#[114, 117, 110, 111, 117, 116, 32, 50, 48, 32, 65, 32, 66]⟩ ⟨#[32]⟩ + 1 = 4 := by decide
theorem ps6_read : rdV [⟨#[114, 117, 110, 111, 117, 116]⟩, ⟨#[50, 48]⟩, ⟨#[65]⟩, ⟨#[66]⟩] = ⟨7, false, 20, 0, [(⟨#[65]⟩, 0), (⟨#[66]⟩, 0)]⟩ := by rw [rdV_eq]; rfl
theorem ps6_plain : fpE 7 20 0 [(⟨#[65]⟩, 0), (⟨#[66]⟩, 0)] = 0 := by rw [fpE_eq]; decide
theorem ps6_text : textV 7 false 20 0 [(⟨#[65]⟩, 0), (⟨#[66]⟩, 0)] = ⟨#[114, 117, 110, 111, 117, 116, 32, 50, 48, 32, 65, 32, 66]⟩ := by unfold textV headL; rw [it20]; decide
end Go.Proofs.YtlfeinajjfbpkaaGreatDoor
