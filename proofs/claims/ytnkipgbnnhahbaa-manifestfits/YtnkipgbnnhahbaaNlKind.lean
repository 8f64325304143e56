/- The kinds that there are, and their identifiers: what the program answers. -/
import Derived.Test.YtnkipgbnnhahbaaNmSpec
import Derived.Test.YtnkipgbnnhahbaaApUs
import Derived.Test.YtnkipgbnnhahbaaRows
import Derived.Deep.OwnRows
import Derived.Deep.AppendLies
import Derived.Great.BuildSlice
import Derived.Laws.Rows
import Derived.BigQuiet
import Derived.Deep.WholeRow
import Derived.Deep.RegionHeld3
import Derived.Deep.DeepCutAuto
import Derived.Deep.DeepFit
namespace Go.Proofs.Ytnkipgbnnhahbaa
open Go.RowKit
theorem ne_codeL (c : Int) : ∀ w : World, (binOp .neq 27 (.iface 38 (.int .i64 c)) .nilIface).run Try.prog w = .ok (.bool true) w := fun _ => by kernel_rfl
theorem ne_nilL : ∀ w : World, (binOp .neq 27 .nilIface .nilIface).run Try.prog w = .ok (.bool false) w := fun _ => by kernel_rfl
end Go.Proofs.Ytnkipgbnnhahbaa
