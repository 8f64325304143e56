/- How many cells a number has. From the row's list of variables to the tables' cells: CrlHas. -/
import Derived.Test.YtkgjlcdefnpkpaaGreatDoorBase
import Derived.Test.YtkgjlcdefnpkpaaGreatDoorEdG
import Derived.Test.YtkgjlcdefnpkpaaGreatDoorRows
import Derived.LaidLaws
import Derived.LaidHandle
import Derived.Lib.LaidTab
import Derived.Stop.LaidErr
import Derived.LaidMore
import Derived.ProofKit
namespace Go.Proofs.YtkgjlcdefnpkpaaGreatDoor
open Go.RowKit
theorem cells_u384:Tryz.prog.cellsOf 28=6:=by kernel_rfl
theorem cells_u64:Tryz.prog.cellsOf 26=1:=by kernel_rfl
theorem g_points_crlHas : Tryz.prog.globalNamed "escutcheon/order.points" = some 1 := by kernel_rfl
theorem t_points_crlHas:(Tryz.prog.globals[1]?).map (·.type)=some 28:=by kernel_rfl
theorem tabs_crlHas {W : World} (h : laidMet Tryz.prog [("escutcheon/order.points", Rows.laid_escutcheon_order_points)] W) : GlsO W := by
 have t0:=Lib.tabIs_of_head (k:=.u64) (zs:=[17072048233947408755,6348401684107011962,14367412456785391071,18446744073709551615,18446744073709551615,18446744073709551615]) g_points_crlHas t_points_crlHas Tryz.underlying28 Tryz.underlying26 cells_u64 cells_u384 h
 exact ⟨⟨t0.cell g_points_crlHas 0 (by decide),t0.cell g_points_crlHas 1 (by decide),t0.cell g_points_crlHas 2 (by decide),t0.cell g_points_crlHas 3 (by decide),t0.cell g_points_crlHas 4 (by decide),t0.cell g_points_crlHas 5 (by decide)⟩,trivial⟩
theorem laidX_crlHas {W : World} (h : laidMetH Tryz.prog [("escutcheon/order.points", Rows.laid_escutcheon_order_points)] W) : laidMet Tryz.prog [("escutcheon/order.points", Rows.laid_escutcheon_order_points)] W := by
 rw [MakeChecks.laidMetH_plain _ _ _ (by kernel_rfl)] at h
 exact h
end Go.Proofs.YtkgjlcdefnpkpaaGreatDoor
