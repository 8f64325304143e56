/- Errors held against each other. -/
import Derived.Test.YtlamngilmkaliaaRows
import Derived.Test.YtlamngilmkaliaaSConv
namespace Go.Proofs.Ytlamngilmkaliaa
open Go.RowKit

theorem nil_eq : ∀ w : World, (binOp .eql 32 .nilIface .nilIface).run Try.prog w = .ok (.bool true) w := fun _ => by kernel_rfl
theorem nil_ne : ∀ w : World, (binOp .neq 32 .nilIface .nilIface).run Try.prog w = .ok (.bool false) w := fun _ => by kernel_rfl
theorem code_eq (c : Int) : ∀ w : World, (binOp .eql 32 (.iface 35 (.int .i64 c)) (.iface 35 (.int .i64 c))).run Try.prog w = .ok (.bool true) w := fun w => by
  have : (binOp .eql 32 (.iface 35 (.int .i64 c)) (.iface 35 (.int .i64 c))).run Try.prog w = .ok (.bool (decide (c = c))) w := by kernel_rfl
  rw [this]; simp
end Go.Proofs.Ytlamngilmkaliaa
