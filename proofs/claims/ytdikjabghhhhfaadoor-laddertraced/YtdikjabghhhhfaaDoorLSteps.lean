/- The steps of a walk. -/
import Derived.Test.YtdikjabghhhhfaaDoorRows
import Derived.Test.YtdikjabghhhhfaaDoorCRef
import Derived.Deep.WholeRow
import Derived.Deep.RegionHeld3
import Derived.Deep.DeepCutAuto
import Derived.Deep.DeepFit
namespace Go.Proofs.YtdikjabghhhhfaaDoor
open Go.RowKit

/-- the steps of a walk, as they lie: double, add, pick, 384 times -/
def Steps (w : World) (b : Nat) : Prop := b < w.heap.size ∧ ∀ i : Nat, i < 384 → w.cell? ⟨b, 3 * i, none⟩ = some (.int .i64 1) ∧ w.cell? ⟨b, 3 * i + 1, none⟩ = some (.int .i64 2) ∧ w.cell? ⟨b, 3 * i + 2, none⟩ = some (.int .i64 3)
theorem Steps.later {w w' : World} {b : Nat} (h : Steps w b) (hb : Below w.heap.size w w') : Steps w' b := ⟨Nat.lt_of_lt_of_le h.1 hb.size, fun i hi => ⟨cell_later (h.2 i hi).1 hb, cell_later (h.2 i hi).2.1 hb, cell_later (h.2 i hi).2.2 hb⟩⟩
theorem Steps.alloc {w : World} {b : Nat} (h : Steps w b) (o : Obj) : Steps (w.alloc o) b := h.later ((Below.refl _ _).alloc (Nat.le_refl _) o)

end Go.Proofs.YtdikjabghhhhfaaDoor
