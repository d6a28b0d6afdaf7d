/- Texts Uzz, Uzc: each says in its own first comment what it proves. -/
import Derived.Test.YtlimjohnimgnhaaGreatDoorM43
/- Frames: Parse, at texts that are known. -/
namespace Go.Proofs.YtlimjohnimgnhaaGreatDoor
open Go.RowKit

theorem fParseAt {w0 : World} (s : ByteArray) (ws : List ByteArray) (k : Nat) (d : Bool) (t : Int) (m : Nat) (ds : List DatT) (hs : s.size ≤ 4096) (hws : splV s = ws) (hn : Lib.countB s ⟨#[32]⟩ + 1 = ws.length) (h0 : ws ≠ []) (hl : ws.length ≤ 5000) (hz : ∀ x ∈ ws, x.size ≤ 1000000)
    (hr : rdV ws = ⟨k, d, t, m, ds⟩) (hk : k < 9) (hm : m < 3) (ht0 : 0 ≤ t) (ht1 : t ≤ 1000000) (hi : (itV t).size ≤ 20) (hE : fpE k t m ds = 0) (hdl : ds.length ≤ 3) (hdz : ∀ d ∈ ds, d.1.size ≤ 100 ∧ ∃ j : Nat, j < 3 ∧ d.2 = (j : Int)) (htx : textV k d t m ds = s) (w : World) (gl : Gf w0 w) :
    Calls Tryz.prog 28 #[.string s] w fun r W' => (∃ dp dc, r = .returned (.tuple #[.agg #[.int .i64 (k : Int), .bool d, .int .i64 t, .int .i64 (m : Int), .slice dp ds.length dc], .int .i64 0]) ∧ DatS W' (.slice dp ds.length dc) ds ∧ ds.length ≤ dc) ∧ Kb w W' := by
  refine fParse_1 w0 s ws k d t m ds hs hws hn (fun bw W g hw => ?_) (fun {w1} dp dc hd hc => ?_) w gl
  · have q := fread ws h0 hl hz bw W g hw
    rw [hr] at q
    exact q
  · have q := fTextOk (w0 := w1) d k t m dp ds.length dc ds hk hm ht0 ht1 hi hd hdl hdz (by rw [← hE]; exact frPlain k d t m dp ds.length dc ds hd hc (by omega) (fun x hx => Nat.le_trans (hdz x hx).1 (by decide)))
    rw [htx] at q
    exact q
theorem dnB_data (ds : List DatT) (nm : ByteArray) : dnB ds nm = ds.any fun d => d.1.data.toList == nm.data.toList := by
  unfold dnB
  congr 1
  funext d
  rw [ByteArray.toList_eq, ByteArray.toList_eq]
theorem chV_data (wd : ByteArray) : chV wd = if (([115, 116, 114, 97, 105, 103, 104, 116] : List UInt8) == wd.data.toList) = true then 0 else if (([102, 108, 97, 116] : List UInt8) == wd.data.toList) = true then 1 else if (([112, 97, 114, 97, 108, 108, 101, 108] : List UInt8) == wd.data.toList) = true then 2 else if (([115, 113, 117, 97, 114, 101] : List UInt8) == wd.data.toList) = true then 3 else if (([114, 111, 117, 110, 100] : List UInt8) == wd.data.toList) = true then 4 else if (([115, 112, 104, 101, 114, 101] : List UInt8) == wd.data.toList) = true then 5 else if (([112, 114, 111, 102, 105, 108, 101] : List UInt8) == wd.data.toList) = true then 6 else if (([114, 117, 110, 111, 117, 116] : List UInt8) == wd.data.toList) = true then 7 else if (([112, 111, 115, 105, 116, 105, 111, 110] : List UInt8) == wd.data.toList) = true then 8 else 9 := by
  unfold chV
  rw [ByteArray.toList_eq]
def dtE' (b : List DatT) (d : DatT) : Int := firstE [firstE [nmE d.1], fE (b.any fun x => x.1.data.toList == d.1.data.toList) 7, firstE [cmE d.2]]
theorem dtE_eq (b : List DatT) (d : DatT) : dtE b d = dtE' b d := by unfold dtE dtE'; rw [dnB_data]
def dsF' (b : List DatT) : List DatT → Int
  | [] => 0
  | d :: l => if dtE' b d = 0 then dsF' (b ++ [d]) l else dtE' b d
theorem dsF_eq (l : List DatT) : ∀ b, dsF b l = dsF' b l := by
  induction l with
  | nil => intro b; rfl
  | cons d l ih => intro b; rw [dsF, dsF', dtE_eq, ih]
theorem fpE_eq (k t m : Int) (ds : List DatT) : fpE k t m ds = firstE [fE ((decide (k < 0)) || (decide (9 ≤ k))) 1, firstE [cmE m], fE ((decide (t < 0)) || (decide (100000 < t))) 2, fE (decide (3 < (ds.length : Int))) 5, dsF' [] ds] := by
  unfold fpE dsE; rw [dsF_eq]
def chV' (wd : ByteArray) : Int := if (([115, 116, 114, 97, 105, 103, 104, 116] : List UInt8) == wd.data.toList) = true then 0 else if (([102, 108, 97, 116] : List UInt8) == wd.data.toList) = true then 1 else if (([112, 97, 114, 97, 108, 108, 101, 108] : List UInt8) == wd.data.toList) = true then 2 else if (([115, 113, 117, 97, 114, 101] : List UInt8) == wd.data.toList) = true then 3 else if (([114, 111, 117, 110, 100] : List UInt8) == wd.data.toList) = true then 4 else if (([115, 112, 104, 101, 114, 101] : List UInt8) == wd.data.toList) = true then 5 else if (([112, 114, 111, 102, 105, 108, 101] : List UInt8) == wd.data.toList) = true then 6 else if (([114, 117, 110, 111, 117, 116] : List UInt8) == wd.data.toList) = true then 7 else if (([112, 111, 115, 105, 116, 105, 111, 110] : List UInt8) == wd.data.toList) = true then 8 else 9
theorem chV_eq (a : ByteArray) : chV a = chV' a := chV_data a
def rdV' : List ByteArray → FrT
  | [] => ⟨9, false, 0, 0, []⟩
  | [a] => ⟨chV' a, false, 0, 0, []⟩
  | a :: b :: l => if (b.data.toList == ([100, 105, 115, 99] : List UInt8)) = true then (match l with
      | [] => ⟨chV' a, true, 0, 0, []⟩
      | e :: l => ⟨chV' a, true, atV (spV e).1, (spV e).2, l.map spV⟩) else ⟨chV' a, false, atV (spV b).1, (spV b).2, l.map spV⟩
theorem rdV_eq (ws : List ByteArray) : rdV ws = rdV' ws := by
  match ws with
  | [] => rfl
  | [a] => simp only [rdV, rdV', chV_eq]
  | a :: b :: [] => simp only [rdV, rdV', chV_eq, ByteArray.toList_eq]
  | a :: b :: e :: l => simp only [rdV, rdV', chV_eq, ByteArray.toList_eq]
end Go.Proofs.YtlimjohnimgnhaaGreatDoor

/- Frames: what the texts of the examples tell. -/
namespace Go.Proofs.YtlimjohnimgnhaaGreatDoor
open Go.RowKit

theorem it0 : itV 0 = ⟨#[48]⟩ := by
  unfold itV Lib.itoa
  rw [if_neg (by decide), show (0 : Int).toNat = 0 from rfl, Lib.decDigits, dif_pos (by decide)]; rfl
theorem it20 : itV 20 = ⟨#[50, 48]⟩ := by
  unfold itV Lib.itoa
  rw [if_neg (by decide), show (20 : Int).toNat = 20 from rfl, Lib.decDigits, dif_neg (by decide), Lib.decDigits, dif_pos (by decide)]; rfl
theorem it30 : itV 30 = ⟨#[51, 48]⟩ := by
  unfold itV Lib.itoa
  rw [if_neg (by decide), show (30 : Int).toNat = 30 from rfl, Lib.decDigits, dif_neg (by decide), Lib.decDigits, dif_pos (by decide)]; rfl
theorem it50 : itV 50 = ⟨#[53, 48]⟩ := by
  unfold itV Lib.itoa
  rw [if_neg (by decide), show (50 : Int).toNat = 50 from rfl, Lib.decDigits, dif_neg (by decide), Lib.decDigits, dif_pos (by decide)]; rfl
theorem ps0_split : splV ⟨#[112, 111, 115, 105, 116, 105, 111, 110, 32, 100, 105, 115, 99, 32, 53, 48, 40, 77, 41, 32, 65, 32, 66, 40, 77, 41]⟩ = [⟨#[112, 111, 115, 105, 116, 105, 111, 110]⟩, ⟨#[100, 105, 115, 99]⟩, ⟨#[53, 48, 40, 77, 41]⟩, ⟨#[65]⟩, ⟨#[66, 40, 77, 41]⟩] := by decide
theorem ps0_count : Lib.countB ⟨#[112, 111, 115, 105, 116, 105, 111, 110, 32, 100, 105, 115, 99, 32, 53, 48, 40, 77, 41, 32, 65, 32, 66, 40, 77, 41]⟩ ⟨#[32]⟩ + 1 = 5 := by decide
theorem ps0_read : rdV [⟨#[112, 111, 115, 105, 116, 105, 111, 110]⟩, ⟨#[100, 105, 115, 99]⟩, ⟨#[53, 48, 40, 77, 41]⟩, ⟨#[65]⟩, ⟨#[66, 40, 77, 41]⟩] = ⟨8, true, 50, 1, [(⟨#[65]⟩, 0), (⟨#[66]⟩, 1)]⟩ := by rw [rdV_eq]; rfl
theorem ps0_plain : fpE 8 50 1 [(⟨#[65]⟩, 0), (⟨#[66]⟩, 1)] = 0 := by rw [fpE_eq]; decide
theorem ps0_text : textV 8 true 50 1 [(⟨#[65]⟩, 0), (⟨#[66]⟩, 1)] = ⟨#[112, 111, 115, 105, 116, 105, 111, 110, 32, 100, 105, 115, 99, 32, 53, 48, 40, 77, 41, 32, 65, 32, 66, 40, 77, 41]⟩ := by unfold textV headL; rw [it50]; decide
theorem ps1_split : splV ⟨#[102, 108, 97, 116, 32, 51, 48]⟩ = [⟨#[102, 108, 97, 116]⟩, ⟨#[51, 48]⟩] := by decide
theorem ps1_count : Lib.countB ⟨#[102, 108, 97, 116, 32, 51, 48]⟩ ⟨#[32]⟩ + 1 = 2 := by decide
theorem ps1_read : rdV [⟨#[102, 108, 97, 116]⟩, ⟨#[51, 48]⟩] = ⟨1, false, 30, 0, []⟩ := by rw [rdV_eq]; rfl
theorem ps1_plain : fpE 1 30 0 [] = 0 := by rw [fpE_eq]; decide
theorem ps1_text : textV 1 false 30 0 [] = ⟨#[102, 108, 97, 116, 32, 51, 48]⟩ := by unfold textV headL; rw [it30]; decide
theorem ps2_split : splV ⟨#[102, 108, 97, 116, 32, 100, 105, 115, 99, 32, 51, 48]⟩ = [⟨#[102, 108, 97, 116]⟩, ⟨#[100, 105, 115, 99]⟩, ⟨#[51, 48]⟩] := by decide
theorem ps2_count : Lib.countB ⟨#[102, 108, 97, 116, 32, 100, 105, 115, 99, 32, 51, 48]⟩ ⟨#[32]⟩ + 1 = 3 := by decide
theorem ps2_read : rdV [⟨#[102, 108, 97, 116]⟩, ⟨#[100, 105, 115, 99]⟩, ⟨#[51, 48]⟩] = ⟨1, true, 30, 0, []⟩ := by rw [rdV_eq]; rfl
theorem ps2_plain : fpE 1 30 0 [] = 0 := by rw [fpE_eq]; decide
theorem ps2_text : textV 1 true 30 0 [] = ⟨#[102, 108, 97, 116, 32, 100, 105, 115, 99, 32, 51, 48]⟩ := by unfold textV headL; rw [it30]; decide
theorem ps3_split : splV ⟨#[112, 111, 115, 105, 116, 105, 111, 110, 32, 48]⟩ = [⟨#[112, 111, 115, 105, 116, 105, 111, 110]⟩, ⟨#[48]⟩] := by decide
theorem ps3_count : Lib.countB ⟨#[112, 111, 115, 105, 116, 105, 111, 110, 32, 48]⟩ ⟨#[32]⟩ + 1 = 2 := by decide
theorem ps3_read : rdV [⟨#[112, 111, 115, 105, 116, 105, 111, 110]⟩, ⟨#[48]⟩] = ⟨8, false, 0, 0, []⟩ := by rw [rdV_eq]; rfl
theorem ps3_plain : fpE 8 0 0 [] = 0 := by rw [fpE_eq]; decide
theorem ps3_text : textV 8 false 0 0 [] = ⟨#[112, 111, 115, 105, 116, 105, 111, 110, 32, 48]⟩ := by unfold textV headL; rw [it0]; decide
theorem ps4_split : splV ⟨#[112, 111, 115, 105, 116, 105, 111, 110, 32, 48, 40, 77, 41, 32, 65]⟩ = [⟨#[112, 111, 115, 105, 116, 105, 111, 110]⟩, ⟨#[48, 40, 77, 41]⟩, ⟨#[65]⟩] := by decide
theorem ps4_count : Lib.countB ⟨#[112, 111, 115, 105, 116, 105, 111, 110, 32, 48, 40, 77, 41, 32, 65]⟩ ⟨#[32]⟩ + 1 = 3 := by decide
theorem ps4_read : rdV [⟨#[112, 111, 115, 105, 116, 105, 111, 110]⟩, ⟨#[48, 40, 77, 41]⟩, ⟨#[65]⟩] = ⟨8, false, 0, 1, [(⟨#[65]⟩, 0)]⟩ := by rw [rdV_eq]; rfl
theorem ps4_plain : fpE 8 0 1 [(⟨#[65]⟩, 0)] = 0 := by rw [fpE_eq]; decide
theorem ps4_text : textV 8 false 0 1 [(⟨#[65]⟩, 0)] = ⟨#[112, 111, 115, 105, 116, 105, 111, 110, 32, 48, 40, 77, 41, 32, 65]⟩ := by unfold textV headL; rw [it0]; decide
theorem ps5_split : splV ⟨#[115, 113, 117, 97, 114, 101, 32, 50, 48]⟩ = [⟨#[115, 113, 117, 97, 114, 101]⟩, ⟨#[50, 48]⟩] := by decide
theorem ps5_count : Lib.countB ⟨#[115, 113, 117, 97, 114, 101, 32, 50, 48]⟩ ⟨#[32]⟩ + 1 = 2 := by decide
theorem ps5_read : rdV [⟨#[115, 113, 117, 97, 114, 101]⟩, ⟨#[50, 48]⟩] = ⟨3, false, 20, 0, []⟩ := by rw [rdV_eq]; rfl
theorem ps5_plain : fpE 3 20 0 [] = 0 := by rw [fpE_eq]; decide
theorem ps5_text : textV 3 false 20 0 [] = ⟨#[115, 113, 117, 97, 114, 101, 32, 50, 48]⟩ := by unfold textV headL; rw [it20]; decide
theorem ps6_split : splV ⟨#[114, 117, 110, 111, 117, 116, 32, 50, 48, 32, 65, 32, 66]⟩ = [⟨#[114, 117, 110, 111, 117, 116]⟩, ⟨#[50, 48]⟩, ⟨#[65]⟩, ⟨#[66]⟩] := by decide
theorem ps6_count : Lib.countB ⟨#[114, 117, 110, 111, 117, 116, 32, 50, 48, 32, 65, 32, 66]⟩ ⟨#[32]⟩ + 1 = 4 := by decide
theorem ps6_read : rdV [⟨#[114, 117, 110, 111, 117, 116]⟩, ⟨#[50, 48]⟩, ⟨#[65]⟩, ⟨#[66]⟩] = ⟨7, false, 20, 0, [(⟨#[65]⟩, 0), (⟨#[66]⟩, 0)]⟩ := by rw [rdV_eq]; rfl
theorem ps6_plain : fpE 7 20 0 [(⟨#[65]⟩, 0), (⟨#[66]⟩, 0)] = 0 := by rw [fpE_eq]; decide
theorem ps6_text : textV 7 false 20 0 [(⟨#[65]⟩, 0), (⟨#[66]⟩, 0)] = ⟨#[114, 117, 110, 111, 117, 116, 32, 50, 48, 32, 65, 32, 66]⟩ := by unfold textV headL; rw [it20]; decide
end Go.Proofs.YtlimjohnimgnhaaGreatDoor
