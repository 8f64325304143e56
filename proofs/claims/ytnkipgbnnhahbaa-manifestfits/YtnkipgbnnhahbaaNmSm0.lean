/- Names, part by part. -/
import Derived.Test.YtnkipgbnnhahbaaNmBase
import Derived.Test.YtnkipgbnnhahbaaRows
import Derived.BigQuiet
import Derived.Deep.WholeRow
import Derived.Deep.RegionHeld3
import Derived.Deep.DeepCutAuto
import Derived.Deep.DeepFit
namespace Go.Proofs.Ytnkipgbnnhahbaa
open Go.RowKit
theorem take_one {n m : List Pn} {i : Nat} {p q : Pn} (h : n.take i = m.take i) (hp : n[i]? = some p) (hq : m[i]? = some q) : n.take (i + 1) = m.take (i + 1) ↔ p = q := by
  rw [List.take_add_one, List.take_add_one, hp, hq, h]
  constructor
  · intro e
    have := List.append_cancel_left e
    simpa using this
  · rintro rfl
    rfl
end Go.Proofs.Ytnkipgbnnhahbaa
