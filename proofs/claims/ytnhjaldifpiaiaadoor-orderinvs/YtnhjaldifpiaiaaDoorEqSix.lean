/- '==' on six limbs. -/
import Derived.Test.YtnhjaldifpiaiaaDoorRows
import Derived.Test.YtnhjaldifpiaiaaDoorBase
namespace Go.Proofs.YtnhjaldifpiaiaaDoor
open Go.RowKit

theorem info_u64 : (Tryd.prog.info? 22).map (fun i => (i.zero, i.size, i.bytes)) = some (some (.int .u64 0), 1, 8) := by kernel_rfl

theorem eql_six (x0 x1 x2 x3 x4 x5 y0 y1 y2 y3 y4 y5 : Int) : ∀ w : World, (Op.equalIn 10000 24 (.agg #[.int .u64 x0, .int .u64 x1, .int .u64 x2, .int .u64 x3, .int .u64 x4, .int .u64 x5]) (.agg #[.int .u64 y0, .int .u64 y1, .int .u64 y2, .int .u64 y3, .int .u64 y4, .int .u64 y5])).run Tryd.prog w = .ok (decide ([x0, x1, x2, x3, x4, x5] = [y0, y1, y2, y3, y4, y5])) w := fun w => by
  cases hi : Tryd.prog.info? 22 with
  | none => have := info_u64; rw [hi] at this; simp at this
  | some i => exact run_eql_us (P := Tryd.prog) w (t := 24) (e := 22) (n := 6) Tryd.underlying24 hi (by kernel_rfl) Tryd.underlying22 (by kernel_rfl) [x0, x1, x2, x3, x4, x5] [y0, y1, y2, y3, y4, y5] rfl rfl

theorem eql_same (x0 x1 x2 x3 x4 x5 : Int) : ∀ w : World, (Op.equalIn 10000 24 (.agg #[.int .u64 x0, .int .u64 x1, .int .u64 x2, .int .u64 x3, .int .u64 x4, .int .u64 x5]) (.agg #[.int .u64 x0, .int .u64 x1, .int .u64 x2, .int .u64 x3, .int .u64 x4, .int .u64 x5])).run Tryd.prog w = .ok true w := fun w => by
  rw [eql_six]; simp

theorem eql_not {x0 x1 x2 x3 x4 x5 y0 y1 y2 y3 y4 y5 : Int} (h : [x0, x1, x2, x3, x4, x5] ≠ [y0, y1, y2, y3, y4, y5]) : ∀ w : World, (Op.equalIn 10000 24 (.agg #[.int .u64 x0, .int .u64 x1, .int .u64 x2, .int .u64 x3, .int .u64 x4, .int .u64 x5]) (.agg #[.int .u64 y0, .int .u64 y1, .int .u64 y2, .int .u64 y3, .int .u64 y4, .int .u64 y5])).run Tryd.prog w = .ok false w := fun w => by
  rw [eql_six, decide_eq_false h]
end Go.Proofs.YtnhjaldifpiaiaaDoor
