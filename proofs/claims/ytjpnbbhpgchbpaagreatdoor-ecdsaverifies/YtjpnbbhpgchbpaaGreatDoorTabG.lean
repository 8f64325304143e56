/- The tables of field, curve and order. From the row's list to the tables' cells. From the row's list of six variables to the tables' cells. From the row's list of seven variables (errors' own, and the tables) to their cells. -/
import Derived.Test.YtjpnbbhpgchbpaaGreatDoorRows
import Derived.Test.YtjpnbbhpgchbpaaGreatDoorCCode
import Derived.Test.YtjpnbbhpgchbpaaGreatDoorOBase
import Derived.Deep.WholeRow
import Derived.Deep.RegionHeld3
import Derived.Deep.DeepCutAuto
import Derived.Deep.DeepFit
import Derived.Test.YtjpnbbhpgchbpaaGreatDoorShape
import Derived.Lib.LaidTab
import Derived.Stop.LaidErr
import Derived.LaidMore
import Derived.ProofKit
import Derived.Test.YtjpnbbhpgchbpaaGreatDoorErG
import Derived.LaidLaws
import Derived.LaidHandle
namespace Go.Proofs.YtjpnbbhpgchbpaaGreatDoor
open Go.RowKit

/-- the tables of field, curve and order -/
def GlsL (w : World) : Prop := GlsC w ∧ GlsO w
theorem GlsL.below {w w' : World} (G : GlsL w) (hb : Below w.heap.size w w') : GlsL w' := ⟨G.1.below hb, G.2.below hb⟩

end Go.Proofs.YtjpnbbhpgchbpaaGreatDoor

namespace Go.Proofs.YtjpnbbhpgchbpaaGreatDoor
open Go.RowKit

theorem g_primeC : Tryz.prog.globalNamed "escutcheon/field.prime" = some 5 := by kernel_rfl
theorem g_squareC : Tryz.prog.globalNamed "escutcheon/field.squareOfR" = some 6 := by kernel_rfl
theorem g_constant : Tryz.prog.globalNamed "escutcheon/curve.constant" = some 4 := by kernel_rfl
theorem g_base : Tryz.prog.globalNamed "escutcheon/curve.base" = some 1 := by kernel_rfl
theorem t_primeC : (Tryz.prog.globals[5]?).map (·.type) = some 24 := by kernel_rfl
theorem t_squareC : (Tryz.prog.globals[6]?).map (·.type) = some 24 := by kernel_rfl
theorem t_constant : (Tryz.prog.globals[4]?).map (·.type) = some 24 := by kernel_rfl
theorem t_base : (Tryz.prog.globals[1]?).map (·.type) = some 39 := by kernel_rfl

theorem glsC_of_laid {W : World} (h : laidMetH Tryz.prog [("escutcheon/field.prime", Rows.laid_escutcheon_field_prime), ("escutcheon/field.squareOfR", Rows.laid_escutcheon_field_squareOfR), ("escutcheon/curve.constant", Rows.laid_escutcheon_curve_constant), ("escutcheon/curve.base", Rows.laid_escutcheon_curve_base)] W) : GlsC W := by
  rw [MakeChecks.laidMetH_plain _ _ _ (by kernel_rfl)] at h
  have t1 := Lib.tabIs_of_head (k := .u64) (zs := [4294967295, 18446744069414584320, 18446744073709551614, 18446744073709551615, 18446744073709551615, 18446744073709551615]) g_primeC t_primeC Tryz.underlying24 Tryz.underlying22 cells_u64 cells_u384 h
  have t2 := Lib.tabIs_of_head (k := .u64) (zs := [18446744065119617025, 8589934592, 18446744065119617024, 8589934592, 1, 0]) g_squareC t_squareC Tryz.underlying24 Tryz.underlying22 cells_u64 cells_u384 h.tail
  have t3 := Lib.tabIs_of_head (k := .u64) (zs := [3064076045283764975, 14291673747578343837, 221811693264799578, 1737717031765098770, 10992729701402291481, 12912154004749740004]) g_constant t_constant Tryz.underlying24 Tryz.underlying22 cells_u64 cells_u384 h.tail.tail
  have t4 := ptIs_of_head g_base t_base h.tail.tail.tail
  exact ⟨⟨⟨t1.cell g_primeC 0 (by decide), t1.cell g_primeC 1 (by decide), t1.cell g_primeC 2 (by decide), t1.cell g_primeC 3 (by decide), t1.cell g_primeC 4 (by decide), t1.cell g_primeC 5 (by decide)⟩, ⟨t2.cell g_squareC 0 (by decide), t2.cell g_squareC 1 (by decide), t2.cell g_squareC 2 (by decide), t2.cell g_squareC 3 (by decide), t2.cell g_squareC 4 (by decide), t2.cell g_squareC 5 (by decide)⟩⟩, ⟨t3.cell g_constant 0 (by decide), t3.cell g_constant 1 (by decide), t3.cell g_constant 2 (by decide), t3.cell g_constant 3 (by decide), t3.cell g_constant 4 (by decide), t3.cell g_constant 5 (by decide)⟩, t4⟩
end Go.Proofs.YtjpnbbhpgchbpaaGreatDoor

namespace Go.Proofs.YtjpnbbhpgchbpaaGreatDoor
open Go.RowKit

theorem g_pointsL : Tryz.prog.globalNamed "escutcheon/order.points" = some 0 := by kernel_rfl
theorem g_squareL : Tryz.prog.globalNamed "escutcheon/order.squareOfR" = some 3 := by kernel_rfl
theorem t_pointsL : (Tryz.prog.globals[0]?).map (·.type) = some 24 := by kernel_rfl
theorem t_squareL : (Tryz.prog.globals[3]?).map (·.type) = some 24 := by kernel_rfl

theorem glsL_of_laid {W : World} (h : laidMetH Tryz.prog [("escutcheon/field.prime", Rows.laid_escutcheon_field_prime), ("escutcheon/field.squareOfR", Rows.laid_escutcheon_field_squareOfR), ("escutcheon/curve.constant", Rows.laid_escutcheon_curve_constant), ("escutcheon/curve.base", Rows.laid_escutcheon_curve_base), ("escutcheon/order.points", Rows.laid_escutcheon_order_points), ("escutcheon/order.squareOfR", Rows.laid_escutcheon_order_squareOfR)] W) : GlsL W := by
  rw [MakeChecks.laidMetH_plain _ _ _ (by kernel_rfl)] at h
  have t1 := Lib.tabIs_of_head (k := .u64) (zs := [4294967295, 18446744069414584320, 18446744073709551614, 18446744073709551615, 18446744073709551615, 18446744073709551615]) g_primeC t_primeC Tryz.underlying24 Tryz.underlying22 cells_u64 cells_u384 h
  have t2 := Lib.tabIs_of_head (k := .u64) (zs := [18446744065119617025, 8589934592, 18446744065119617024, 8589934592, 1, 0]) g_squareC t_squareC Tryz.underlying24 Tryz.underlying22 cells_u64 cells_u384 h.tail
  have t3 := Lib.tabIs_of_head (k := .u64) (zs := [3064076045283764975, 14291673747578343837, 221811693264799578, 1737717031765098770, 10992729701402291481, 12912154004749740004]) g_constant t_constant Tryz.underlying24 Tryz.underlying22 cells_u64 cells_u384 h.tail.tail
  have t4 := ptIs_of_head g_base t_base h.tail.tail.tail
  have t5 := Lib.tabIs_of_head (k := .u64) (zs := [17072048233947408755, 6348401684107011962, 14367412456785391071, 18446744073709551615, 18446744073709551615, 18446744073709551615]) g_pointsL t_pointsL Tryz.underlying24 Tryz.underlying22 cells_u64 cells_u384 h.tail.tail.tail.tail
  have t6 := Lib.tabIs_of_head (k := .u64) (zs := [3256554584917936553, 18391999277541532697, 13564358545871743303, 15279949475123764421, 4589268600508278933, 902107514168524577]) g_squareL t_squareL Tryz.underlying24 Tryz.underlying22 cells_u64 cells_u384 h.tail.tail.tail.tail.tail
  exact ⟨⟨⟨⟨t1.cell g_primeC 0 (by decide), t1.cell g_primeC 1 (by decide), t1.cell g_primeC 2 (by decide), t1.cell g_primeC 3 (by decide), t1.cell g_primeC 4 (by decide), t1.cell g_primeC 5 (by decide)⟩, ⟨t2.cell g_squareC 0 (by decide), t2.cell g_squareC 1 (by decide), t2.cell g_squareC 2 (by decide), t2.cell g_squareC 3 (by decide), t2.cell g_squareC 4 (by decide), t2.cell g_squareC 5 (by decide)⟩⟩, ⟨t3.cell g_constant 0 (by decide), t3.cell g_constant 1 (by decide), t3.cell g_constant 2 (by decide), t3.cell g_constant 3 (by decide), t3.cell g_constant 4 (by decide), t3.cell g_constant 5 (by decide)⟩, t4⟩, ⟨⟨t5.cell g_pointsL 0 (by decide), t5.cell g_pointsL 1 (by decide), t5.cell g_pointsL 2 (by decide), t5.cell g_pointsL 3 (by decide), t5.cell g_pointsL 4 (by decide), t5.cell g_pointsL 5 (by decide)⟩, ⟨t6.cell g_squareL 0 (by decide), t6.cell g_squareL 1 (by decide), t6.cell g_squareL 2 (by decide), t6.cell g_squareL 3 (by decide), t6.cell g_squareL 4 (by decide), t6.cell g_squareL 5 (by decide)⟩⟩⟩
end Go.Proofs.YtjpnbbhpgchbpaaGreatDoor

namespace Go.Proofs.YtjpnbbhpgchbpaaGreatDoor
open Go.RowKit

theorem etA_global : Tryz.prog.globalNamed "errors.errorType" = some 2 := by kernel_rfl
theorem etA_rt : (Tryz.prog.cutTypes.find? (·.1 == "internal/reflectlite.rtype")).map (·.2) = some 147 := by kernel_rfl
theorem etA_one : ((List.range 217).filter fun t => Tryz.prog.rowNamed t [101, 114, 114, 111, 114]) = [30] := by kernel_rfl
theorem etA_size : Tryz.prog.types.size = 217 := by kernel_rfl
theorem glsA_of_laid {W : World} (h : laidMetH Tryz.prog [("errors.errorType", Rows.laid_errors_errorType), ("escutcheon/field.prime", Rows.laid_escutcheon_field_prime), ("escutcheon/field.squareOfR", Rows.laid_escutcheon_field_squareOfR), ("escutcheon/curve.constant", Rows.laid_escutcheon_curve_constant), ("escutcheon/curve.base", Rows.laid_escutcheon_curve_base), ("escutcheon/order.points", Rows.laid_escutcheon_order_points), ("escutcheon/order.squareOfR", Rows.laid_escutcheon_order_squareOfR)] W) : GlsE W := by
  have h' : laidMet Tryz.prog [("escutcheon/field.prime", Rows.laid_escutcheon_field_prime), ("escutcheon/field.squareOfR", Rows.laid_escutcheon_field_squareOfR), ("escutcheon/curve.constant", Rows.laid_escutcheon_curve_constant), ("escutcheon/curve.base", Rows.laid_escutcheon_curve_base), ("escutcheon/order.points", Rows.laid_escutcheon_order_points), ("escutcheon/order.squareOfR", Rows.laid_escutcheon_order_squareOfR)] W ∧ handlesMet Tryz.prog [("errors.errorType", Rows.laid_errors_errorType)] W := h
  obtain ⟨name, u, ty, e1, e2, e3, e4, e5⟩ := h'.2 _ (List.mem_singleton.2 rfl)
  have en : name = [101, 114, 114, 111, 114] := (Option.some.inj e1).symm
  subst en
  obtain rfl := Option.some.inj (etA_rt.symm.trans e2)
  have hm : ty ∈ (List.range 217).filter fun t => Tryz.prog.rowNamed t [101, 114, 114, 111, 114] := List.mem_filter.2 ⟨List.mem_range.2 (by rw [← etA_size]; exact e3), e4⟩
  rw [etA_one] at hm
  obtain rfl := List.mem_singleton.1 hm
  have hh : typeHandle Tryz.prog 30 = .pointer (some ⟨7, 30, none⟩) := by kernel_rfl
  rw [hh] at e5
  have hc : W.cell? ⟨2, 0, none⟩ = some (.iface 147 (.agg #[.pointer (some ⟨7, 30, none⟩)])) := by simpa using World.var?_cell etA_global e5 0
  refine ⟨hc, ?_⟩
  by_cases hlt : 2 < W.heap.size
  · exact hlt
  · have : W.heap[2]? = none := Array.getElem?_eq_none (by omega)
    simp [World.cell?, this] at hc
theorem glsB_of_laid {W : World} (h : laidMetH Tryz.prog [("errors.errorType", Rows.laid_errors_errorType), ("escutcheon/field.prime", Rows.laid_escutcheon_field_prime), ("escutcheon/field.squareOfR", Rows.laid_escutcheon_field_squareOfR), ("escutcheon/curve.constant", Rows.laid_escutcheon_curve_constant), ("escutcheon/curve.base", Rows.laid_escutcheon_curve_base), ("escutcheon/order.points", Rows.laid_escutcheon_order_points), ("escutcheon/order.squareOfR", Rows.laid_escutcheon_order_squareOfR)] W) : GlsL W := by
  have h' : laidMet Tryz.prog [("escutcheon/field.prime", Rows.laid_escutcheon_field_prime), ("escutcheon/field.squareOfR", Rows.laid_escutcheon_field_squareOfR), ("escutcheon/curve.constant", Rows.laid_escutcheon_curve_constant), ("escutcheon/curve.base", Rows.laid_escutcheon_curve_base), ("escutcheon/order.points", Rows.laid_escutcheon_order_points), ("escutcheon/order.squareOfR", Rows.laid_escutcheon_order_squareOfR)] W ∧ handlesMet Tryz.prog [("errors.errorType", Rows.laid_errors_errorType)] W := h
  refine glsL_of_laid ?_
  rw [MakeChecks.laidMetH_plain _ _ _ (by kernel_rfl)]
  exact h'.1
end Go.Proofs.YtjpnbbhpgchbpaaGreatDoor
