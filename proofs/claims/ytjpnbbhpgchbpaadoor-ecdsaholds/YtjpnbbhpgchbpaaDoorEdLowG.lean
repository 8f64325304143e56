/- What limb.Less answers of rows of cells. What limb.From answers, as a row of cells. What order.N answers, as a row of cells. -/
import Derived.Test.YtjpnbbhpgchbpaaDoorRows
import Derived.Test.YtjpnbbhpgchbpaaDoorEdG
import Derived.Test.YtjpnbbhpgchbpaaDoorLimb
import Derived.Deep.WholeRow
import Derived.Deep.RegionHeld3
import Derived.Test.YtjpnbbhpgchbpaaDoorFrom
import Derived.Test.YtjpnbbhpgchbpaaDoorOBase
namespace Go.Proofs.YtjpnbbhpgchbpaaDoor
open Go.RowKit

theorem uLess {cs ds : List Value} {x y : Int} {w : World} (h : U6 cs x) (k : U6 ds y) : Calls Tryd.prog 29 #[.agg cs.toArray, .agg ds.toArray] w fun e w' => e = .returned (.int .u64 (if x < y then 1 else 0)) ∧ Below w.heap.size w w' := by
  obtain ⟨z0, z1, z2, z3, z4, z5, rfl, hf, rfl⟩ := h
  obtain ⟨y0, y1, y2, y3, y4, y5, rfl, kf, rfl⟩ := k
  refine (less6 hf kf).mono ?_
  rintro e w' ⟨rfl, hb⟩
  exact ⟨rfl, hb⟩
end Go.Proofs.YtjpnbbhpgchbpaaDoor

namespace Go.Proofs.YtjpnbbhpgchbpaaDoor
open Go.RowKit

theorem uFrom {v : Value} {D : List Int} {w : World} (hv : Bs w v D) (hD : byt D) (hl : D.length = 48) : Calls Tryd.prog 31 #[v] w fun e w' => ∃ es, e = .returned (.tuple #[.agg es.toArray, .nilIface]) ∧ U6 es (beN D) ∧ Below w.heap.size w w' := by
  refine (from6 hv hl hD).mono ?_
  rintro e w' ⟨y0, y1, y2, y3, y4, y5, rfl, fy, hy, hb⟩
  exact ⟨_, rfl, ⟨y0, y1, y2, y3, y4, y5, rfl, fy, hy⟩, hb⟩
end Go.Proofs.YtjpnbbhpgchbpaaDoor

namespace Go.Proofs.YtjpnbbhpgchbpaaDoor
open Go.RowKit

theorem uN {w : World} (G : GlsO w) : Calls Tryd.prog 30 #[] w fun e w' => ∃ es, e = .returned (.agg es.toArray) ∧ U6 es QQ ∧ Below w.heap.size w w' := by
  refine (on6 G).mono ?_
  rintro e w' ⟨rfl, hb⟩
  exact ⟨_, rfl, ⟨_, _, _, _, _, _, rfl, fits6 (by decide), by decide +kernel⟩, hb⟩
end Go.Proofs.YtjpnbbhpgchbpaaDoor
