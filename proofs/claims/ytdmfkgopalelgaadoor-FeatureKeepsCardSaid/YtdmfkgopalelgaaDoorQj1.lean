/- Features: equal datums. -/
import Derived.Test.YtdmfkgopalelgaaDoorQg5
import Derived.Test.YtdmfkgopalelgaaDoorQg4
namespace Go.Proofs.YtdmfkgopalelgaaDoor
open Go.RowKit

theorem DatS.kb {w w' : World} {v : Value} {ds : List DatT} (h : DatS w v ds) (k : Kb w w') : DatS w' v ds := h.kx k.kx
theorem DatS.alloc {w : World} {v : Value} {ds : List DatT} (h : DatS w v ds) (o : Obj) : DatS (w.alloc o) v ds := h.kb ((Kb.refl _).alloc o)
theorem DatS.drew {w : World} {v : Value} {ds : List DatT} (h : DatS w v ds) : DatS w.drew v ds := h.kb (show Kb w w.drew from (Kb.refl _).drew)
end Go.Proofs.YtdmfkgopalelgaaDoor
