/- '==' on six limbs. -/
import Derived.Test.YtpgidlnpcjbfhabDoorRows
import Derived.Test.YtpgidlnpcjbfhabDoorBase
namespace Go.Proofs.YtpgidlnpcjbfhabDoor
open Go.RowKit

theorem run_eql_usd {P : Program} (w : World) (d : Nat) {t e : TypeId} {n : Nat} {i : TypeInfo} (hp : P.underlying t = some (.array n e)) (hi : P.info? e = some i) (he : P.plainKey e = true) (hu : P.underlying e = some (.int .u64)) (hc : P.cellsOf e = 1) (A B : List Int) (lA : A.length = n) (lB : B.length = n) :
    (Op.equalIn (d + 2) t (.agg (us A).toArray) (.agg (us B).toArray)).run P w = .ok (decide (A = B)) w := by
  rw [run_equalIn_array w (d + 1) _ _ hp hi, List.range_eq_range', run_eqItems_us w d he hu hc A B n lA lB n 0 (by omega)]
  simp

theorem info_u64 : (Tryd.prog.info? 22).map (fun i => (i.zero, i.size, i.bytes)) = some (some (.int .u64 0), 1, 8) := by kernel_rfl

theorem eql_six (x0 x1 x2 x3 x4 x5 y0 y1 y2 y3 y4 y5 : Int) : ∀ w : World, (Op.equalIn 10000 24 (.agg #[.int .u64 x0, .int .u64 x1, .int .u64 x2, .int .u64 x3, .int .u64 x4, .int .u64 x5]) (.agg #[.int .u64 y0, .int .u64 y1, .int .u64 y2, .int .u64 y3, .int .u64 y4, .int .u64 y5])).run Tryd.prog w = .ok (decide ([x0, x1, x2, x3, x4, x5] = [y0, y1, y2, y3, y4, y5])) w := fun w => by
  cases hi : Tryd.prog.info? 22 with
  | none => have := info_u64; rw [hi] at this; simp at this
  | some i => exact run_eql_us (P := Tryd.prog) w (t := 24) (e := 22) (n := 6) Tryd.underlying24 hi (by kernel_rfl) Tryd.underlying22 (by kernel_rfl) [x0, x1, x2, x3, x4, x5] [y0, y1, y2, y3, y4, y5] rfl rfl

theorem eql_same (x0 x1 x2 x3 x4 x5 : Int) : ∀ w : World, (Op.equalIn 10000 24 (.agg #[.int .u64 x0, .int .u64 x1, .int .u64 x2, .int .u64 x3, .int .u64 x4, .int .u64 x5]) (.agg #[.int .u64 x0, .int .u64 x1, .int .u64 x2, .int .u64 x3, .int .u64 x4, .int .u64 x5])).run Tryd.prog w = .ok true w := fun w => by
  rw [eql_six]; simp

theorem eql_not {x0 x1 x2 x3 x4 x5 y0 y1 y2 y3 y4 y5 : Int} (h : [x0, x1, x2, x3, x4, x5] ≠ [y0, y1, y2, y3, y4, y5]) : ∀ w : World, (Op.equalIn 10000 24 (.agg #[.int .u64 x0, .int .u64 x1, .int .u64 x2, .int .u64 x3, .int .u64 x4, .int .u64 x5]) (.agg #[.int .u64 y0, .int .u64 y1, .int .u64 y2, .int .u64 y3, .int .u64 y4, .int .u64 y5])).run Tryd.prog w = .ok false w := fun w => by
  rw [eql_six, decide_eq_false h]
theorem eql_six9 (x0 x1 x2 x3 x4 x5 y0 y1 y2 y3 y4 y5 : Int) : ∀ w : World, (Op.equalIn 9999 24 (.agg #[.int .u64 x0, .int .u64 x1, .int .u64 x2, .int .u64 x3, .int .u64 x4, .int .u64 x5]) (.agg #[.int .u64 y0, .int .u64 y1, .int .u64 y2, .int .u64 y3, .int .u64 y4, .int .u64 y5])).run Tryd.prog w = .ok (decide ([x0, x1, x2, x3, x4, x5] = [y0, y1, y2, y3, y4, y5])) w := fun w => by
  cases hi : Tryd.prog.info? 22 with
  | none => have := info_u64; rw [hi] at this; simp at this
  | some i => exact run_eql_usd (P := Tryd.prog) w 9997 (t := 24) (e := 22) (n := 6) Tryd.underlying24 hi (by kernel_rfl) Tryd.underlying22 (by kernel_rfl) [x0, x1, x2, x3, x4, x5] [y0, y1, y2, y3, y4, y5] rfl rfl
end Go.Proofs.YtpgidlnpcjbfhabDoor
