/- Errors held against each other. -/
import Derived.Test.YtlamngilmkaliabRows
import Derived.Test.YtlamngilmkaliabSConv
namespace Go.Proofs.Ytlamngilmkaliab
open Go.RowKit

theorem nil_eq : ∀ w : World, (binOp .eql 26 .nilIface .nilIface).run Try.prog w = .ok (.bool true) w := fun _ => by kernel_rfl
theorem nil_ne : ∀ w : World, (binOp .neq 26 .nilIface .nilIface).run Try.prog w = .ok (.bool false) w := fun _ => by kernel_rfl
theorem code_eq (c : Int) : ∀ w : World, (binOp .eql 26 (.iface 30 (.int .i64 c)) (.iface 30 (.int .i64 c))).run Try.prog w = .ok (.bool true) w := fun w => by
  have : (binOp .eql 26 (.iface 30 (.int .i64 c)) (.iface 30 (.int .i64 c))).run Try.prog w = .ok (.bool (decide (c = c))) w := by kernel_rfl
  rw [this]; simp
end Go.Proofs.Ytlamngilmkaliab
