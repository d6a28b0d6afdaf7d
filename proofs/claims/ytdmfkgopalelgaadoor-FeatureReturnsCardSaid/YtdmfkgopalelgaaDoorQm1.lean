/- Features: walks of the law Moves. -/
import Derived.Test.YtdmfkgopalelgaaDoorQj5
import Derived.Test.YtdmfkgopalelgaaDoorQg9
namespace Go.Proofs.YtdmfkgopalelgaaDoor
open Go.RowKit

theorem rSelf (n : ByteArray) (k a x y z lo hi : Int) (p1 : Option Addr) (l1 c1 : Nat) (p2 : Option Addr) (l2 c2 : Nat) (g : List FrT) (h : Hid (g.length ≤ 12 ∧ ∀ f ∈ g, f.ds.length ≤ 1000000)) (w : World) (da : FrS w (.slice p1 l1 c1) g) (db : FrS w (.slice p2 l2 c2) g) : Calls Tryd.prog 30 #[.agg #[.string n, .int .i64 k, .int .i64 a, .int .i64 x, .int .i64 y, .int .i64 z, .int .i64 lo, .int .i64 hi, .slice p1 l1 c1], .agg #[.string n, .int .i64 k, .int .i64 a, .int .i64 x, .int .i64 y, .int .i64 z, .int .i64 lo, .int .i64 hi, .slice p2 l2 c2]] w fun r W' => r = .returned (.bool true) ∧ Kb w W' := by
  have q := rSame n k a x y z lo hi p1 l1 c1 n k a x y z lo hi p2 l2 c2 g g (by have := da.len; have := h.out.1; omega) (Lib.hid h.out.2) w da db
  rw [plB_refl, eqL_refl frB_refl] at q
  exact q
end Go.Proofs.YtdmfkgopalelgaaDoor
