/- What order.Digest answers. -/
import Derived.Test.YtjpnbbhpgchbpaaDoorRows
import Derived.Test.YtjpnbbhpgchbpaaDoorEdG
import Derived.Test.YtjpnbbhpgchbpaaDoorODigest
import Derived.Deep.WholeRow
import Derived.Deep.RegionHeld3
import Derived.Deep.DeepCutAuto
import Derived.Deep.DeepFit
namespace Go.Proofs.YtjpnbbhpgchbpaaDoor
open Go.RowKit
theorem uDigest {v : Value} {D : List Int} {w : World} (G : GlsO w) (hv : Bs w v D) (hD : byt D) (hl : D.length = 48) : Calls Tryd.prog 16 #[v] w fun e w' => ∃ es, e = .returned (.tuple #[.agg es.toArray, .nilIface]) ∧ U6 es (beN D % QQ) ∧ Below w.heap.size w w' := by
  refine (digest_ok G hv hl hD).mono ?_
  rintro e w' ⟨y0, y1, y2, y3, y4, y5, rfl, fy, hy, hb⟩
  exact ⟨_, rfl, ⟨y0, y1, y2, y3, y4, y5, rfl, fy, hy⟩, hb⟩
end Go.Proofs.YtjpnbbhpgchbpaaDoor
