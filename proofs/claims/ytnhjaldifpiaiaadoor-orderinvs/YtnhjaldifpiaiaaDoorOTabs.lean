/- From the row's list to the tables' cells. -/
import Derived.Test.YtnhjaldifpiaiaaDoorOBase
import Derived.Lib.LaidTab
import Derived.Stop.LaidErr
import Derived.LaidMore
import Derived.ProofKit
namespace Go.Proofs.YtnhjaldifpiaiaaDoor
open Go.RowKit

theorem g_points : Tryd.prog.globalNamed "escutcheon/order.points" = some 0 := by kernel_rfl
theorem g_squareO : Tryd.prog.globalNamed "escutcheon/order.squareOfR" = some 3 := by kernel_rfl
theorem t_points : (Tryd.prog.globals[0]?).map (·.type) = some 24 := by kernel_rfl
theorem t_squareO : (Tryd.prog.globals[3]?).map (·.type) = some 24 := by kernel_rfl
theorem cells_sixO : Tryd.prog.cellsOf 24 = 6 := by kernel_rfl
theorem cells_oneO : Tryd.prog.cellsOf 22 = 1 := by kernel_rfl

theorem glsO_of_laid {W : World} (h : laidMetH Tryd.prog [("escutcheon/order.points", Rows.laid_escutcheon_order_points), ("escutcheon/order.squareOfR", Rows.laid_escutcheon_order_squareOfR)] W) : GlsO W := by
  rw [MakeChecks.laidMetH_plain _ _ _ (by kernel_rfl)] at h
  have t1 := Lib.tabIs_of_head (k := .u64) (zs := [17072048233947408755, 6348401684107011962, 14367412456785391071, 18446744073709551615, 18446744073709551615, 18446744073709551615]) g_points t_points Tryd.underlying24 Tryd.underlying22 cells_oneO cells_sixO h
  have t2 := Lib.tabIs_of_head (k := .u64) (zs := [3256554584917936553, 18391999277541532697, 13564358545871743303, 15279949475123764421, 4589268600508278933, 902107514168524577]) g_squareO t_squareO Tryd.underlying24 Tryd.underlying22 cells_oneO cells_sixO h.tail
  exact ⟨⟨t1.cell g_points 0 (by decide), t1.cell g_points 1 (by decide), t1.cell g_points 2 (by decide), t1.cell g_points 3 (by decide), t1.cell g_points 4 (by decide), t1.cell g_points 5 (by decide)⟩, ⟨t2.cell g_squareO 0 (by decide), t2.cell g_squareO 1 (by decide), t2.cell g_squareO 2 (by decide), t2.cell g_squareO 3 (by decide), t2.cell g_squareO 4 (by decide), t2.cell g_squareO 5 (by decide)⟩⟩
end Go.Proofs.YtnhjaldifpiaiaaDoor
