/- Texts Right: each says in its own first comment what it proves. -/
import Derived.Test.YtabepobcmpmkdaaGreatM40
import Derived.Test.YtabepobcmpmkdaaGreatM42
/- slices.ContainsFunc over lists of texts, and right of metrolablaw02. -/
namespace Go.Proofs.YtabepobcmpmkdaaGreat
open Go.RowKit
open Go.Lib (nDigits itoa decDigits)

/-- a text with at most 30 bytes before and behind the slash -/
def shB (a : ByteArray) : Bool := decide ((cN a).size ≤ 30) && decide ((cD a).size ≤ 30)
theorem nd_len_lt {n k : Nat} (h : nDigits n ≤ k) (hk : 0 < k) : n < 10 ^ k := (nd_le_iff hk).1 h
end Go.Proofs.YtabepobcmpmkdaaGreat
