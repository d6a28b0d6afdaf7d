/- Texts RPaper2: each says in its own first comment what it proves. -/
import Derived.Test.YtegamkilhgekjaaGreatDoorM21
/- The reference's paper: sums and differences digit by digit. -/
namespace Go.Proofs.YtegamkilhgekjaaGreatDoor
open Go.RowKit
open Go.Lib (nDigits itoa decDigits)

def c10 (u v k : Nat) : Nat := (u % 10 ^ k + v % 10 ^ k) / 10 ^ k
end Go.Proofs.YtegamkilhgekjaaGreatDoor
