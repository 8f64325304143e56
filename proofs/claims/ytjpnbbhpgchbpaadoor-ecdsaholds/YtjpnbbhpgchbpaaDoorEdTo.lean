/- The document's To6 into a row of cells. -/
import Derived.Test.YtjpnbbhpgchbpaaDoorRows
import Derived.Test.YtjpnbbhpgchbpaaDoorEdG
import Derived.Test.YtjpnbbhpgchbpaaDoorRefA
import Derived.Deep.WholeRow
import Derived.Deep.RegionHeld3
import Derived.Deep.DeepCutAuto
import Derived.Deep.DeepFit
namespace Go.Proofs.YtjpnbbhpgchbpaaDoor
open Go.RowKit

theorem uTo6 {v : Value} {x : Int} {w : World} (h : NumIs w v x) (h0 : 0 ≤ x) (h1 : x < 18446744073709551616 ^ 6) : Calls Tryd.prog 9 #[v] w fun e w' => ∃ es, e = .returned (.agg es.toArray) ∧ U6 es x ∧ Below w.heap.size w w' := by
  refine (to6_any v x w h).mono ?_
  rintro e w' ⟨T, rfl, lT, fT, hT, hb⟩
  obtain ⟨z0, z1, z2, z3, z4, z5, rfl⟩ := six_of lT
  refine ⟨_, rfl, ⟨z0, z1, z2, z3, z4, z5, rfl, fT, ?_⟩, hb⟩
  rw [hT, Int.emod_eq_of_lt h0 h1]
end Go.Proofs.YtjpnbbhpgchbpaaDoor
