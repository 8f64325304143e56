/- '==' on eight words. -/
import Derived.Test.YtbglkbfnhnmodaaDoorRows
import Derived.Test.YtbglkbfnhnmodaaDoorBase
import Derived.Deep.WholeRow
import Derived.Deep.RegionHeld3
import Derived.Deep.DeepCutAuto
import Derived.Deep.DeepFit
namespace Go.Proofs.YtbglkbfnhnmodaaDoor
open Go.RowKit

theorem info_w64 : (Tryd.prog.info? 26).map (fun i => (i.zero, i.size, i.bytes)) = some (some (.int .u64 0), 1, 8) := by kernel_rfl
theorem eql_8 (x0 x1 x2 x3 x4 x5 x6 x7 y0 y1 y2 y3 y4 y5 y6 y7 : Int) : ∀ w : World, (Op.equalIn 10000 27 (.agg #[.int .u64 x0, .int .u64 x1, .int .u64 x2, .int .u64 x3, .int .u64 x4, .int .u64 x5, .int .u64 x6, .int .u64 x7]) (.agg #[.int .u64 y0, .int .u64 y1, .int .u64 y2, .int .u64 y3, .int .u64 y4, .int .u64 y5, .int .u64 y6, .int .u64 y7])).run Tryd.prog w = .ok (decide ([x0, x1, x2, x3, x4, x5, x6, x7] = [y0, y1, y2, y3, y4, y5, y6, y7])) w := fun w => by
  cases hi : Tryd.prog.info? 26 with
  | none => have := info_w64; rw [hi] at this; simp at this
  | some i => exact run_eql_us (P := Tryd.prog) w (t := 27) (e := 26) (n := 8) Tryd.underlying27 hi (by kernel_rfl) Tryd.underlying26 (by kernel_rfl) [x0, x1, x2, x3, x4, x5, x6, x7] [y0, y1, y2, y3, y4, y5, y6, y7] rfl rfl
theorem eql_8s (x0 x1 x2 x3 x4 x5 x6 x7 : Int) : ∀ w : World, (Op.equalIn 10000 27 (.agg #[.int .u64 x0, .int .u64 x1, .int .u64 x2, .int .u64 x3, .int .u64 x4, .int .u64 x5, .int .u64 x6, .int .u64 x7]) (.agg #[.int .u64 x0, .int .u64 x1, .int .u64 x2, .int .u64 x3, .int .u64 x4, .int .u64 x5, .int .u64 x6, .int .u64 x7])).run Tryd.prog w = .ok true w := fun w => by
  rw [eql_8]; simp

end Go.Proofs.YtbglkbfnhnmodaaDoor
