import Derived.Test.YtdfmoghjimghhaaGreatDoorCCode
import Derived.Test.YtdfmoghjimghhaaGreatDoorCtBase
import Derived.Test.YtdfmoghjimghhaaGreatDoorCRef
import Derived.Test.YtdfmoghjimghhaaGreatDoorRows
import Derived.Deep.WholeRow
import Derived.Deep.RegionHeld3
import Derived.Deep.DeepCutAuto
import Derived.Deep.DeepFit
import Derived.Lib.LaidTab
import Derived.Stop.LaidErr
import Derived.LaidMore
import Derived.ProofKit
import Derived.LaidLaws
import Derived.LaidHandle
namespace Go.Proofs.YtdfmoghjimghhaaGreatDoor
open Go.RowKit
theorem ZcO : Tryz.prog.globalNamed "escutcheon/field.prime" = some 4 := by kernel_rfl
theorem Zch : Tryz.prog.globalNamed "escutcheon/field.squareOfR" = some 5 := by kernel_rfl
theorem ZbP : Tryz.prog.globalNamed "escutcheon/curve.constant" = some 3 := by kernel_rfl
theorem ZnH:(Tryz.prog.globals[4]?).map (·.type)=some 27:=by kernel_rfl
theorem ZlI:(Tryz.prog.globals[5]?).map (·.type)=some 27:=by kernel_rfl
theorem Zjy:(Tryz.prog.globals[3]?).map (·.type)=some 27:=by kernel_rfl
theorem Zdz : Tryz.prog.globalNamed "escutcheon/order.points" = some 2 := by kernel_rfl
theorem ZdJ:(Tryz.prog.globals[2]?).map (·.type)=some 27:=by kernel_rfl
theorem Ze9 {W : World} (h : laidMet Tryz.prog [("escutcheon/field.prime", Rows.laid_escutcheon_field_prime), ("escutcheon/field.squareOfR", Rows.laid_escutcheon_field_squareOfR), ("escutcheon/curve.constant", Rows.laid_escutcheon_curve_constant), ("escutcheon/order.points", Rows.laid_escutcheon_order_points)] W) : Zel W := by
 have t0:=Lib.tabIs_of_head (k:=.u64) (zs:=[4294967295,18446744069414584320,18446744073709551614,18446744073709551615,18446744073709551615,18446744073709551615]) ZcO ZnH Tryz.underlying27 Tryz.underlying25 Zce Zbb h;have t1:=Lib.tabIs_of_head (k:=.u64) (zs:=[18446744065119617025,8589934592,18446744065119617024,8589934592,1,0]) Zch ZlI Tryz.underlying27 Tryz.underlying25 Zce Zbb h.tail;have t2:=Lib.tabIs_of_head (k:=.u64) (zs:=[3064076045283764975,14291673747578343837,221811693264799578,1737717031765098770,10992729701402291481,12912154004749740004]) ZbP Zjy Tryz.underlying27 Tryz.underlying25 Zce Zbb h.tail.tail;have t3:=Lib.tabIs_of_head (k:=.u64) (zs:=[17072048233947408755,6348401684107011962,14367412456785391071,18446744073709551615,18446744073709551615,18446744073709551615]) Zdz ZdJ Tryz.underlying27 Tryz.underlying25 Zce Zbb h.tail.tail.tail;exact ⟨⟨⟨t0.cell ZcO 0 (by decide),t0.cell ZcO 1 (by decide),t0.cell ZcO 2 (by decide),t0.cell ZcO 3 (by decide),t0.cell ZcO 4 (by decide),t0.cell ZcO 5 (by decide)⟩,⟨t1.cell Zch 0 (by decide),t1.cell Zch 1 (by decide),t1.cell Zch 2 (by decide),t1.cell Zch 3 (by decide),t1.cell Zch 4 (by decide),t1.cell Zch 5 (by decide)⟩⟩,⟨t2.cell ZbP 0 (by decide),t2.cell ZbP 1 (by decide),t2.cell ZbP 2 (by decide),t2.cell ZbP 3 (by decide),t2.cell ZbP 4 (by decide),t2.cell ZbP 5 (by decide)⟩,trivial⟩
theorem Zex {W : World} (h : laidMetH Tryz.prog [("escutcheon/field.prime", Rows.laid_escutcheon_field_prime), ("escutcheon/field.squareOfR", Rows.laid_escutcheon_field_squareOfR), ("escutcheon/curve.constant", Rows.laid_escutcheon_curve_constant), ("escutcheon/order.points", Rows.laid_escutcheon_order_points)] W) : laidMet Tryz.prog [("escutcheon/field.prime", Rows.laid_escutcheon_field_prime), ("escutcheon/field.squareOfR", Rows.laid_escutcheon_field_squareOfR), ("escutcheon/curve.constant", Rows.laid_escutcheon_curve_constant), ("escutcheon/order.points", Rows.laid_escutcheon_order_points)] W := by
 rw[MakeChecks.laidMetH_plain _ _ _ (by kernel_rfl)] at h;exact h
end Go.Proofs.YtdfmoghjimghhaaGreatDoor
