/- The tables of field, curve and order. From the row's list to the tables' cells. From the row's list of six variables to the tables' cells. -/
import Derived.Test.YtjpnbbhpgchbpaaDoorRows
import Derived.Test.YtjpnbbhpgchbpaaDoorCCode
import Derived.Test.YtjpnbbhpgchbpaaDoorOBase
import Derived.Deep.WholeRow
import Derived.Deep.RegionHeld3
import Derived.Deep.DeepCutAuto
import Derived.Deep.DeepFit
import Derived.Test.YtjpnbbhpgchbpaaDoorShape
import Derived.Lib.LaidTab
import Derived.Stop.LaidErr
import Derived.LaidMore
import Derived.ProofKit
namespace Go.Proofs.YtjpnbbhpgchbpaaDoor
open Go.RowKit

/-- the tables of field, curve and order -/
def GlsL (w : World) : Prop := GlsC w ∧ GlsO w
theorem GlsL.below {w w' : World} (G : GlsL w) (hb : Below w.heap.size w w') : GlsL w' := ⟨G.1.below hb, G.2.below hb⟩

end Go.Proofs.YtjpnbbhpgchbpaaDoor

namespace Go.Proofs.YtjpnbbhpgchbpaaDoor
open Go.RowKit

theorem g_primeC : Tryd.prog.globalNamed "escutcheon/field.prime" = some 4 := by kernel_rfl
theorem g_squareC : Tryd.prog.globalNamed "escutcheon/field.squareOfR" = some 5 := by kernel_rfl
theorem g_constant : Tryd.prog.globalNamed "escutcheon/curve.constant" = some 3 := by kernel_rfl
theorem g_base : Tryd.prog.globalNamed "escutcheon/curve.base" = some 0 := by kernel_rfl
theorem t_primeC : (Tryd.prog.globals[4]?).map (·.type) = some 24 := by kernel_rfl
theorem t_squareC : (Tryd.prog.globals[5]?).map (·.type) = some 24 := by kernel_rfl
theorem t_constant : (Tryd.prog.globals[3]?).map (·.type) = some 24 := by kernel_rfl
theorem t_base : (Tryd.prog.globals[0]?).map (·.type) = some 37 := by kernel_rfl

theorem glsC_of_laid {W : World} (h : laidMetH Tryd.prog [("escutcheon/field.prime", Rows.laid_escutcheon_field_prime), ("escutcheon/field.squareOfR", Rows.laid_escutcheon_field_squareOfR), ("escutcheon/curve.constant", Rows.laid_escutcheon_curve_constant), ("escutcheon/curve.base", Rows.laid_escutcheon_curve_base)] W) : GlsC W := by
  rw [MakeChecks.laidMetH_plain _ _ _ (by kernel_rfl)] at h
  have t1 := Lib.tabIs_of_head (k := .u64) (zs := [4294967295, 18446744069414584320, 18446744073709551614, 18446744073709551615, 18446744073709551615, 18446744073709551615]) g_primeC t_primeC Tryd.underlying24 Tryd.underlying22 cells_u64 cells_u384 h
  have t2 := Lib.tabIs_of_head (k := .u64) (zs := [18446744065119617025, 8589934592, 18446744065119617024, 8589934592, 1, 0]) g_squareC t_squareC Tryd.underlying24 Tryd.underlying22 cells_u64 cells_u384 h.tail
  have t3 := Lib.tabIs_of_head (k := .u64) (zs := [3064076045283764975, 14291673747578343837, 221811693264799578, 1737717031765098770, 10992729701402291481, 12912154004749740004]) g_constant t_constant Tryd.underlying24 Tryd.underlying22 cells_u64 cells_u384 h.tail.tail
  have t4 := ptIs_of_head g_base t_base h.tail.tail.tail
  exact ⟨⟨⟨t1.cell g_primeC 0 (by decide), t1.cell g_primeC 1 (by decide), t1.cell g_primeC 2 (by decide), t1.cell g_primeC 3 (by decide), t1.cell g_primeC 4 (by decide), t1.cell g_primeC 5 (by decide)⟩, ⟨t2.cell g_squareC 0 (by decide), t2.cell g_squareC 1 (by decide), t2.cell g_squareC 2 (by decide), t2.cell g_squareC 3 (by decide), t2.cell g_squareC 4 (by decide), t2.cell g_squareC 5 (by decide)⟩⟩, ⟨t3.cell g_constant 0 (by decide), t3.cell g_constant 1 (by decide), t3.cell g_constant 2 (by decide), t3.cell g_constant 3 (by decide), t3.cell g_constant 4 (by decide), t3.cell g_constant 5 (by decide)⟩, t4⟩
end Go.Proofs.YtjpnbbhpgchbpaaDoor

namespace Go.Proofs.YtjpnbbhpgchbpaaDoor
open Go.RowKit

theorem g_pointsL : Tryd.prog.globalNamed "escutcheon/order.points" = some 1 := by kernel_rfl
theorem g_squareL : Tryd.prog.globalNamed "escutcheon/order.squareOfR" = some 2 := by kernel_rfl
theorem t_pointsL : (Tryd.prog.globals[1]?).map (·.type) = some 24 := by kernel_rfl
theorem t_squareL : (Tryd.prog.globals[2]?).map (·.type) = some 24 := by kernel_rfl

theorem glsL_of_laid {W : World} (h : laidMetH Tryd.prog [("escutcheon/field.prime", Rows.laid_escutcheon_field_prime), ("escutcheon/field.squareOfR", Rows.laid_escutcheon_field_squareOfR), ("escutcheon/curve.constant", Rows.laid_escutcheon_curve_constant), ("escutcheon/curve.base", Rows.laid_escutcheon_curve_base), ("escutcheon/order.points", Rows.laid_escutcheon_order_points), ("escutcheon/order.squareOfR", Rows.laid_escutcheon_order_squareOfR)] W) : GlsL W := by
  rw [MakeChecks.laidMetH_plain _ _ _ (by kernel_rfl)] at h
  have t1 := Lib.tabIs_of_head (k := .u64) (zs := [4294967295, 18446744069414584320, 18446744073709551614, 18446744073709551615, 18446744073709551615, 18446744073709551615]) g_primeC t_primeC Tryd.underlying24 Tryd.underlying22 cells_u64 cells_u384 h
  have t2 := Lib.tabIs_of_head (k := .u64) (zs := [18446744065119617025, 8589934592, 18446744065119617024, 8589934592, 1, 0]) g_squareC t_squareC Tryd.underlying24 Tryd.underlying22 cells_u64 cells_u384 h.tail
  have t3 := Lib.tabIs_of_head (k := .u64) (zs := [3064076045283764975, 14291673747578343837, 221811693264799578, 1737717031765098770, 10992729701402291481, 12912154004749740004]) g_constant t_constant Tryd.underlying24 Tryd.underlying22 cells_u64 cells_u384 h.tail.tail
  have t4 := ptIs_of_head g_base t_base h.tail.tail.tail
  have t5 := Lib.tabIs_of_head (k := .u64) (zs := [17072048233947408755, 6348401684107011962, 14367412456785391071, 18446744073709551615, 18446744073709551615, 18446744073709551615]) g_pointsL t_pointsL Tryd.underlying24 Tryd.underlying22 cells_u64 cells_u384 h.tail.tail.tail.tail
  have t6 := Lib.tabIs_of_head (k := .u64) (zs := [3256554584917936553, 18391999277541532697, 13564358545871743303, 15279949475123764421, 4589268600508278933, 902107514168524577]) g_squareL t_squareL Tryd.underlying24 Tryd.underlying22 cells_u64 cells_u384 h.tail.tail.tail.tail.tail
  exact ⟨⟨⟨⟨t1.cell g_primeC 0 (by decide), t1.cell g_primeC 1 (by decide), t1.cell g_primeC 2 (by decide), t1.cell g_primeC 3 (by decide), t1.cell g_primeC 4 (by decide), t1.cell g_primeC 5 (by decide)⟩, ⟨t2.cell g_squareC 0 (by decide), t2.cell g_squareC 1 (by decide), t2.cell g_squareC 2 (by decide), t2.cell g_squareC 3 (by decide), t2.cell g_squareC 4 (by decide), t2.cell g_squareC 5 (by decide)⟩⟩, ⟨t3.cell g_constant 0 (by decide), t3.cell g_constant 1 (by decide), t3.cell g_constant 2 (by decide), t3.cell g_constant 3 (by decide), t3.cell g_constant 4 (by decide), t3.cell g_constant 5 (by decide)⟩, t4⟩, ⟨⟨t5.cell g_pointsL 0 (by decide), t5.cell g_pointsL 1 (by decide), t5.cell g_pointsL 2 (by decide), t5.cell g_pointsL 3 (by decide), t5.cell g_pointsL 4 (by decide), t5.cell g_pointsL 5 (by decide)⟩, ⟨t6.cell g_squareL 0 (by decide), t6.cell g_squareL 1 (by decide), t6.cell g_squareL 2 (by decide), t6.cell g_squareL 3 (by decide), t6.cell g_squareL 4 (by decide), t6.cell g_squareL 5 (by decide)⟩⟩⟩
end Go.Proofs.YtjpnbbhpgchbpaaDoor
