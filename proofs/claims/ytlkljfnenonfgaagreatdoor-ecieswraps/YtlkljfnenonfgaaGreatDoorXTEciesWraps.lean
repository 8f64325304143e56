/- From the row's list of variables to the tables' cells: EciesWraps. -/
import Derived.Test.YtlkljfnenonfgaaGreatDoorEiUp0
import Derived.Test.YtlkljfnenonfgaaGreatDoorXTEciesUnwraps
import Derived.Test.YtlkljfnenonfgaaGreatDoorRows
import Derived.LaidLaws
import Derived.LaidHandle
import Derived.Lib.LaidTab
import Derived.Stop.LaidErr
import Derived.LaidMore
import Derived.ProofKit
namespace Go.Proofs.YtlkljfnenonfgaaGreatDoor
open Go.RowKit
theorem tabs_eciesWraps {W : World} (h : laidMet Tryz.prog [("escutcheon/field.prime", Rows.laid_escutcheon_field_prime), ("escutcheon/field.squareOfR", Rows.laid_escutcheon_field_squareOfR), ("escutcheon/curve.constant", Rows.laid_escutcheon_curve_constant), ("escutcheon/curve.base", Rows.laid_escutcheon_curve_base), ("escutcheon/order.points", Rows.laid_escutcheon_order_points), ("escutcheon/order.squareOfR", Rows.laid_escutcheon_order_squareOfR), ("escutcheon/sha.constants", Rows.laid_escutcheon_sha_constants), ("escutcheon/sha.atFirst", Rows.laid_escutcheon_sha_atFirst)] W) : GlsX W := by
 have t0:=Lib.tabIs_of_head (k:=.u64) (zs:=[4294967295,18446744069414584320,18446744073709551614,18446744073709551615,18446744073709551615,18446744073709551615]) g_primeC t_primeC Tryz.underlying24 Tryz.underlying22 cells_u64 cells_u384 h
 have t1:=Lib.tabIs_of_head (k:=.u64) (zs:=[18446744065119617025,8589934592,18446744065119617024,8589934592,1,0]) g_squareC t_squareC Tryz.underlying24 Tryz.underlying22 cells_u64 cells_u384 h.tail
 have t2:=Lib.tabIs_of_head (k:=.u64) (zs:=[3064076045283764975,14291673747578343837,221811693264799578,1737717031765098770,10992729701402291481,12912154004749740004]) g_constant t_constant Tryz.underlying24 Tryz.underlying22 cells_u64 cells_u384 h.tail.tail
 have t3:=ptIs_of_head g_base t_base h.tail.tail.tail
 have t4:=Lib.tabIs_of_head (k:=.u64) (zs:=[17072048233947408755,6348401684107011962,14367412456785391071,18446744073709551615,18446744073709551615,18446744073709551615]) g_pointsL t_pointsL Tryz.underlying24 Tryz.underlying22 cells_u64 cells_u384 h.tail.tail.tail.tail
 have t5:=Lib.tabIs_of_head (k:=.u64) (zs:=[3256554584917936553,18391999277541532697,13564358545871743303,15279949475123764421,4589268600508278933,902107514168524577]) g_squareL t_squareL Tryz.underlying24 Tryz.underlying22 cells_u64 cells_u384 h.tail.tail.tail.tail.tail
 have t6:=Lib.tabIs_of_head (k:=.u64) (zs:=KS) g_con t_con Tryz.underlying172 Tryz.underlying22 cells_1s cells_80 h.tail.tail.tail.tail.tail.tail
 have t7:=Lib.tabIs_of_head (k:=.u64) (zs:=HS) g_fir t_fir Tryz.underlying145 Tryz.underlying22 cells_1s cells_8s h.tail.tail.tail.tail.tail.tail.tail
 exact ⟨⟨⟨⟨t0.cell g_primeC 0 (by decide),t0.cell g_primeC 1 (by decide),t0.cell g_primeC 2 (by decide),t0.cell g_primeC 3 (by decide),t0.cell g_primeC 4 (by decide),t0.cell g_primeC 5 (by decide)⟩,⟨t1.cell g_squareC 0 (by decide),t1.cell g_squareC 1 (by decide),t1.cell g_squareC 2 (by decide),t1.cell g_squareC 3 (by decide),t1.cell g_squareC 4 (by decide),t1.cell g_squareC 5 (by decide)⟩⟩,⟨t2.cell g_constant 0 (by decide),t2.cell g_constant 1 (by decide),t2.cell g_constant 2 (by decide),t2.cell g_constant 3 (by decide),t2.cell g_constant 4 (by decide),t2.cell g_constant 5 (by decide)⟩,t3⟩,⟨⟨t4.cell g_pointsL 0 (by decide),t4.cell g_pointsL 1 (by decide),t4.cell g_pointsL 2 (by decide),t4.cell g_pointsL 3 (by decide),t4.cell g_pointsL 4 (by decide),t4.cell g_pointsL 5 (by decide)⟩,⟨t5.cell g_squareL 0 (by decide),t5.cell g_squareL 1 (by decide),t5.cell g_squareL 2 (by decide),t5.cell g_squareL 3 (by decide),t5.cell g_squareL 4 (by decide),t5.cell g_squareL 5 (by decide)⟩⟩,⟨fun j hj=>t6.cell g_con j (by rw [show KS.length=80 from rfl];exact hj),fun j hj=>t7.cell g_fir j hj⟩⟩
theorem laidX_eciesWraps {W : World} (h : laidMetH Tryz.prog [("escutcheon/field.prime", Rows.laid_escutcheon_field_prime), ("escutcheon/field.squareOfR", Rows.laid_escutcheon_field_squareOfR), ("escutcheon/curve.constant", Rows.laid_escutcheon_curve_constant), ("escutcheon/curve.base", Rows.laid_escutcheon_curve_base), ("escutcheon/order.points", Rows.laid_escutcheon_order_points), ("escutcheon/order.squareOfR", Rows.laid_escutcheon_order_squareOfR), ("escutcheon/sha.constants", Rows.laid_escutcheon_sha_constants), ("escutcheon/sha.atFirst", Rows.laid_escutcheon_sha_atFirst)] W) : laidMet Tryz.prog [("escutcheon/field.prime", Rows.laid_escutcheon_field_prime), ("escutcheon/field.squareOfR", Rows.laid_escutcheon_field_squareOfR), ("escutcheon/curve.constant", Rows.laid_escutcheon_curve_constant), ("escutcheon/curve.base", Rows.laid_escutcheon_curve_base), ("escutcheon/order.points", Rows.laid_escutcheon_order_points), ("escutcheon/order.squareOfR", Rows.laid_escutcheon_order_squareOfR), ("escutcheon/sha.constants", Rows.laid_escutcheon_sha_constants), ("escutcheon/sha.atFirst", Rows.laid_escutcheon_sha_atFirst)] W := by
 rw [MakeChecks.laidMetH_plain _ _ _ (by kernel_rfl)] at h
 exact h
end Go.Proofs.YtlkljfnenonfgaaGreatDoor
