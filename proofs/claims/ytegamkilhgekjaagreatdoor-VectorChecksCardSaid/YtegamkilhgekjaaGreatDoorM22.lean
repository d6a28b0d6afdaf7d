/- Texts RPaper2: each says in its own first comment what it proves. -/
import Derived.Test.YtegamkilhgekjaaGreatDoorM05
import Derived.Test.YtegamkilhgekjaaGreatDoorM11
import Derived.Test.YtegamkilhgekjaaGreatDoorM12
import Derived.Test.YtegamkilhgekjaaGreatDoorM07
import Derived.Lib.LazyBuf
import Derived.Deep.RegionWith
/- The reference's paper: sums and differences digit by digit. -/
namespace Go.Proofs.YtegamkilhgekjaaGreatDoor
open Go.RowKit
open Go.Lib (nDigits itoa decDigits)

def c10 (u v k : Nat) : Nat := (u % 10 ^ k + v % 10 ^ k) / 10 ^ k
end Go.Proofs.YtegamkilhgekjaaGreatDoor
