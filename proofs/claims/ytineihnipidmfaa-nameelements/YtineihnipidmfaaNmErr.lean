/- Errors that are Codes, compared. -/
import Derived.Test.YtineihnipidmfaaRows
import Derived.Test.YtineihnipidmfaaNmSpec
import Derived.Deep.WholeRow
import Derived.Deep.RegionHeld3
import Derived.Deep.DeepCutAuto
import Derived.Deep.DeepFit
namespace Go.Proofs.Ytineihnipidmfaa
open Go.RowKit

theorem iface_eqN (c : Int) : ∀ w : World, (binOp .eql 30 (.iface 34 (.int .i64 c)) (.iface 34 (.int .i64 c))).run Try.prog w = .ok (.bool true) w := fun w => by
  have : (binOp .eql 30 (.iface 34 (.int .i64 c)) (.iface 34 (.int .i64 c))).run Try.prog w = .ok (.bool (decide (c = c))) w := by kernel_rfl
  rw [this]; simp
end Go.Proofs.Ytineihnipidmfaa
