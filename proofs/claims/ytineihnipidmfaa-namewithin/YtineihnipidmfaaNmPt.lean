/- What a part is made of. -/
import Derived.Test.YtineihnipidmfaaRows
import Derived.Test.YtineihnipidmfaaNmBase
import Derived.Deep.OwnRows
import Derived.Deep.AppendLies
import Derived.Great.BuildSlice
import Derived.Laws.Rows
import Derived.BigQuiet
import Derived.Deep.WholeRow
import Derived.Deep.RegionHeld3
import Derived.Deep.DeepCutAuto
import Derived.Deep.DeepFit
namespace Go.Proofs.Ytineihnipidmfaa
open Go.RowKit

theorem info_pt : (Try.prog.info? 47).map (fun i => (i.zero, i.size, i.bytes)) = some (some (.agg #[.int .i64 0, .string { data := #[] }]), 2, 24) := by kernel_rfl
theorem zero_pt : ∀ w : World, (zeroValue 47).run Try.prog w = .ok (.agg #[.int .i64 0, .string { data := #[] }]) w := fun w => by kernel_rfl
theorem fill_pt {a b : Value} : Instr.fill (fun i => some (i * 2, 2)) ((Array.range (1 * 2)).map ((Value.agg #[.int .i64 0, .string { data := #[] }]).cells[· % (Value.agg #[.int .i64 0, .string { data := #[] }]).cells.size]!)) [(0, .agg #[a, b])] = some #[a, b] := by kernel_rfl
end Go.Proofs.Ytineihnipidmfaa
