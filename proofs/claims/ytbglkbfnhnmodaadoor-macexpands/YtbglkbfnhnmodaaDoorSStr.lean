/- Errors held against each other. -/
import Derived.Test.YtbglkbfnhnmodaaDoorRows
import Derived.Test.YtbglkbfnhnmodaaDoorSConv
namespace Go.Proofs.YtbglkbfnhnmodaaDoor
open Go.RowKit

theorem nil_eq : ∀ w : World, (binOp .eql 34 .nilIface .nilIface).run Tryd.prog w = .ok (.bool true) w := fun _ => by kernel_rfl
theorem nil_ne : ∀ w : World, (binOp .neq 34 .nilIface .nilIface).run Tryd.prog w = .ok (.bool false) w := fun _ => by kernel_rfl
theorem code_eq (c : Int) : ∀ w : World, (binOp .eql 34 (.iface 37 (.int .i64 c)) (.iface 37 (.int .i64 c))).run Tryd.prog w = .ok (.bool true) w := fun w => by
  have : (binOp .eql 34 (.iface 37 (.int .i64 c)) (.iface 37 (.int .i64 c))).run Tryd.prog w = .ok (.bool (decide (c = c))) w := by kernel_rfl
  rw [this]; simp
end Go.Proofs.YtbglkbfnhnmodaaDoor
