/- The tables of field, curve and order. -/
import Derived.Test.YtdikjabghhhhfaaDoorRows
import Derived.Test.YtdikjabghhhhfaaDoorCCode
import Derived.Test.YtdikjabghhhhfaaDoorOBase
import Derived.Deep.WholeRow
import Derived.Deep.RegionHeld3
import Derived.Deep.DeepCutAuto
import Derived.Deep.DeepFit
namespace Go.Proofs.YtdikjabghhhhfaaDoor
open Go.RowKit

/-- the tables of field, curve and order -/
def GlsL (w : World) : Prop := GlsC w ∧ GlsO w
theorem GlsL.below {w w' : World} (G : GlsL w) (hb : Below w.heap.size w w') : GlsL w' := ⟨G.1.below hb, G.2.below hb⟩

end Go.Proofs.YtdikjabghhhhfaaDoor
