/- From the row's list to the tables' cells. -/
import Derived.Test.YtnhjaldifpiaiaaDoorFBase
import Derived.Lib.LaidTab
import Derived.Stop.LaidErr
import Derived.LaidMore
import Derived.ProofKit
namespace Go.Proofs.YtnhjaldifpiaiaaDoor
open Go.RowKit

theorem g_prime : Tryd.prog.globalNamed "escutcheon/field.prime" = some 2 := by kernel_rfl
theorem g_square : Tryd.prog.globalNamed "escutcheon/field.squareOfR" = some 1 := by kernel_rfl
theorem t_prime : (Tryd.prog.globals[2]?).map (·.type) = some 24 := by kernel_rfl
theorem t_square : (Tryd.prog.globals[1]?).map (·.type) = some 24 := by kernel_rfl
theorem cells_six : Tryd.prog.cellsOf 24 = 6 := by kernel_rfl
theorem cells_one : Tryd.prog.cellsOf 22 = 1 := by kernel_rfl

theorem gls_of_laid {W : World} (h : laidMetH Tryd.prog [("escutcheon/field.prime", Rows.laid_escutcheon_field_prime), ("escutcheon/field.squareOfR", Rows.laid_escutcheon_field_squareOfR)] W) : Gls W := by
  rw [MakeChecks.laidMetH_plain _ _ _ (by kernel_rfl)] at h
  have t1 := Lib.tabIs_of_head (k := .u64) (zs := [4294967295, 18446744069414584320, 18446744073709551614, 18446744073709551615, 18446744073709551615, 18446744073709551615]) g_prime t_prime Tryd.underlying24 Tryd.underlying22 cells_one cells_six h
  have t2 := Lib.tabIs_of_head (k := .u64) (zs := [18446744065119617025, 8589934592, 18446744065119617024, 8589934592, 1, 0]) g_square t_square Tryd.underlying24 Tryd.underlying22 cells_one cells_six h.tail
  exact ⟨⟨t1.cell g_prime 0 (by decide), t1.cell g_prime 1 (by decide), t1.cell g_prime 2 (by decide), t1.cell g_prime 3 (by decide), t1.cell g_prime 4 (by decide), t1.cell g_prime 5 (by decide)⟩, ⟨t2.cell g_square 0 (by decide), t2.cell g_square 1 (by decide), t2.cell g_square 2 (by decide), t2.cell g_square 3 (by decide), t2.cell g_square 4 (by decide), t2.cell g_square 5 (by decide)⟩⟩
end Go.Proofs.YtnhjaldifpiaiaaDoor
