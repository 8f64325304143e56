/- What limb.Same answers of rows of cells. -/
import Derived.Test.YtjpnbbhpgchbpaaDoorRows
import Derived.Test.YtjpnbbhpgchbpaaDoorEdG
import Derived.Test.YtjpnbbhpgchbpaaDoorLimb
import Derived.Deep.WholeRow
import Derived.Deep.RegionHeld3
namespace Go.Proofs.YtjpnbbhpgchbpaaDoor
open Go.RowKit

theorem uSame {cs ds : List Value} {x y : Int} {w : World} (h : U6 cs x) (k : U6 ds y) : Calls Tryd.prog 28 #[.agg cs.toArray, .agg ds.toArray] w fun e w' => e = .returned (.int .u64 (if x = y then 1 else 0)) ∧ Below w.heap.size w w' := by
  obtain ⟨z0, z1, z2, z3, z4, z5, rfl, hf, rfl⟩ := h
  obtain ⟨y0, y1, y2, y3, y4, y5, rfl, kf, rfl⟩ := k
  refine (same_is hf kf rfl rfl).mono ?_
  rintro e w' ⟨rfl, hb⟩
  exact ⟨rfl, hb⟩
end Go.Proofs.YtjpnbbhpgchbpaaDoor
