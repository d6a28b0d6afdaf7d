/- Texts Uzz: each says in its own first comment what it proves. -/
import Derived.Test.YtlfeinajjfbpkaaGreatDoorM26
/- Frames: Parse, at texts that are known. -/
namespace Go.Proofs.YtlfeinajjfbpkaaGreatDoor
open Go.RowKit

theorem fParseAt {w0 : World} (s : ByteArray) (ws : List ByteArray) (k : Nat) (d : Bool) (t : Int) (m : Nat) (ds : List DatT) (hs : s.size ≤ 4096) (hws : splV s = ws) (hn : Lib.countB s ⟨#[32]⟩ + 1 = ws.length) (h0 : ws ≠ []) (hl : ws.length ≤ 5000) (hz : ∀ x ∈ ws, x.size ≤ 1000000)
    (hr : rdV ws = ⟨k, d, t, m, ds⟩) (hk : k < 9) (hm : m < 3) (ht0 : 0 ≤ t) (ht1 : t ≤ 1000000) (hi : (itV t).size ≤ 20) (hE : fpE k t m ds = 0) (hdl : ds.length ≤ 3) (hdz : ∀ d ∈ ds, d.1.size ≤ 100 ∧ ∃ j : Nat, j < 3 ∧ d.2 = (j : Int)) (htx : textV k d t m ds = s) (w : World) (gl : Gf w0 w) :
    Calls Tryz.prog 28 #[.string s] w fun r W' => (∃ dp dc, r = .returned (.tuple #[.agg #[.int .i64 (k : Int), .bool d, .int .i64 t, .int .i64 (m : Int), .slice dp ds.length dc], .int .i64 0]) ∧ DatS W' (.slice dp ds.length dc) ds ∧ ds.length ≤ dc) ∧ Kb w W' := by
  refine fParse_1 w0 s ws k d t m ds hs hws hn (fun bw W g hw => ?_) (fun {w1} dp dc hd hc => ?_) w gl
  · have q := fread ws h0 hl hz bw W g hw
    rw [hr] at q
    exact q
  · have q := fTextOk (w0 := w1) d k t m dp ds.length dc ds hk hm ht0 ht1 hi hd hdl hdz (by rw [← hE]; exact frPlain k d t m dp ds.length dc ds hd hc (by omega) (fun x hx => Nat.le_trans (hdz x hx).1 (by decide)))
    rw [htx] at q
    exact q
theorem dnB_data (ds : List DatT) (nm : ByteArray) : dnB ds nm = ds.any fun d => d.1.data.toList == nm.data.toList := by
  unfold dnB
  congr 1
  funext d
  rw [ByteArray.toList_eq, ByteArray.toList_eq]
theorem chV_data (wd : ByteArray) : chV wd = if (([115, 116, 114, 97, 105, 103, 104, 116] : List UInt8) == wd.data.toList) = true then 0 else if (([102, 108, 97, 116] : List UInt8) == wd.data.toList) = true then 1 else if (([112, 97, 114, 97, 108, 108, 101, 108] : List UInt8) == wd.data.toList) = true then 2 else if (([115, 113, 117, 97, 114, 101] : List UInt8) == wd.data.toList) = true then 3 else if (([114, 111, 117, 110, 100] : List UInt8) == wd.data.toList) = true then 4 else if (([115, 112, 104, 101, 114, 101] : List UInt8) == wd.data.toList) = true then 5 else if (([112, 114, 111, 102, 105, 108, 101] : List UInt8) == wd.data.toList) = true then 6 else if (([114, 117, 110, 111, 117, 116] : List UInt8) == wd.data.toList) = true then 7 else if (([112, 111, 115, 105, 116, 105, 111, 110] : List UInt8) == wd.data.toList) = true then 8 else 9 := by
  unfold chV
  rw [ByteArray.toList_eq]
def dtE' (b : List DatT) (d : DatT) : Int := firstE [firstE [nmE d.1], fE (b.any fun x => x.1.data.toList == d.1.data.toList) 7, firstE [cmE d.2]]
theorem dtE_eq (b : List DatT) (d : DatT) : dtE b d = dtE' b d := by unfold dtE dtE'; rw [dnB_data]
def dsF' (b : List DatT) : List DatT → Int
  | [] => 0
  | d :: l => if dtE' b d = 0 then dsF' (b ++ [d]) l else dtE' b d
theorem dsF_eq (l : List DatT) : ∀ b, dsF b l = dsF' b l := by
  induction l with
  | nil => intro b; rfl
  | cons d l ih => intro b; rw [dsF, dsF', dtE_eq, ih]
theorem fpE_eq (k t m : Int) (ds : List DatT) : fpE k t m ds = firstE [fE ((decide (k < 0)) || (decide (9 ≤ k))) 1, firstE [cmE m], fE ((decide (t < 0)) || (decide (100000 < t))) 2, fE (decide (3 < (ds.length : Int))) 5, dsF' [] ds] := by
  unfold fpE dsE; rw [dsF_eq]
def chV' (wd : ByteArray) : Int := if (([115, 116, 114, 97, 105, 103, 104, 116] : List UInt8) == wd.data.toList) = true then 0 else if (([102, 108, 97, 116] : List UInt8) == wd.data.toList) = true then 1 else if (([112, 97, 114, 97, 108, 108, 101, 108] : List UInt8) == wd.data.toList) = true then 2 else if (([115, 113, 117, 97, 114, 101] : List UInt8) == wd.data.toList) = true then 3 else if (([114, 111, 117, 110, 100] : List UInt8) == wd.data.toList) = true then 4 else if (([115, 112, 104, 101, 114, 101] : List UInt8) == wd.data.toList) = true then 5 else if (([112, 114, 111, 102, 105, 108, 101] : List UInt8) == wd.data.toList) = true then 6 else if (([114, 117, 110, 111, 117, 116] : List UInt8) == wd.data.toList) = true then 7 else if (([112, 111, 115, 105, 116, 105, 111, 110] : List UInt8) == wd.data.toList) = true then 8 else 9
theorem chV_eq (a : ByteArray) : chV a = chV' a := chV_data a
def rdV' : List ByteArray → FrT
  | [] => ⟨9, false, 0, 0, []⟩
  | [a] => ⟨chV' a, false, 0, 0, []⟩
  | a :: b :: l => if (b.data.toList == ([100, 105, 115, 99] : List UInt8)) = true then (match l with
      | [] => ⟨chV' a, true, 0, 0, []⟩
      | e :: l => ⟨chV' a, true, atV (spV e).1, (spV e).2, l.map spV⟩) else ⟨chV' a, false, atV (spV b).1, (spV b).2, l.map spV⟩
theorem rdV_eq (ws : List ByteArray) : rdV ws = rdV' ws := by
  match ws with
  | [] => rfl
  | [a] => simp only [rdV, rdV', chV_eq]
  | a :: b :: [] => simp only [rdV, rdV', chV_eq, ByteArray.toList_eq]
  | a :: b :: e :: l => simp only [rdV, rdV', chV_eq, ByteArray.toList_eq]
end Go.Proofs.YtlfeinajjfbpkaaGreatDoor
