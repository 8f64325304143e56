/- From the row's list to the cells of sha's tables. -/
import Derived.Test.YtbglkbfnhnmodaaDoorSCodeD
import Derived.Lib.LaidTab
import Derived.Stop.LaidErr
import Derived.LaidMore
import Derived.ProofKit
namespace Go.Proofs.YtbglkbfnhnmodaaDoor
open Go.RowKit

theorem g_con : Tryd.prog.globalNamed "escutcheon/sha.constants" = some 1 := by kernel_rfl
theorem g_fir : Tryd.prog.globalNamed "escutcheon/sha.atFirst" = some 0 := by kernel_rfl
theorem t_con : (Tryd.prog.globals[1]?).map (·.type) = some 65 := by kernel_rfl
theorem t_fir : (Tryd.prog.globals[0]?).map (·.type) = some 27 := by kernel_rfl
theorem cells_80 : Tryd.prog.cellsOf 65 = 80 := by kernel_rfl
theorem cells_8s : Tryd.prog.cellsOf 27 = 8 := by kernel_rfl
theorem cells_1s : Tryd.prog.cellsOf 26 = 1 := by kernel_rfl

theorem glsS_of_laid {W : World} (h : laidMetH Tryd.prog [("escutcheon/sha.constants", Rows.laid_escutcheon_sha_constants), ("escutcheon/sha.atFirst", Rows.laid_escutcheon_sha_atFirst)] W) : GlsS W := by
  rw [MakeChecks.laidMetH_plain _ _ _ (by kernel_rfl)] at h
  have t1 := Lib.tabIs_of_head (k := .u64) (zs := KS) g_con t_con Tryd.underlying65 Tryd.underlying26 cells_1s cells_80 h
  have t2 := Lib.tabIs_of_head (k := .u64) (zs := HS) g_fir t_fir Tryd.underlying27 Tryd.underlying26 cells_1s cells_8s h.tail
  exact ⟨fun j hj => t1.cell g_con j (by rw [ks_len]; exact hj), fun j hj => t2.cell g_fir j hj⟩
end Go.Proofs.YtbglkbfnhnmodaaDoor
